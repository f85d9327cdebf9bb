/- The line of a premise. strings.Builder: copyCheck, WriteString at this seat. The text of a rule base: the lines of its premises, rules and promotions, through a strings.Builder. A valid rule base fits: its names are short, its ranks are digits. Format of a rule base. A rule base that fits is one whose values fit. -/
import Derived.Test.YtfcoplplkbeljaaGreatDoorZ1E
import Derived.Test.YtfcoplplkbeljaaGreatDoorZ1F
import Derived.Lib.Builder
import Derived.Test.YtfcoplplkbeljaaGreatDoorZ1D

namespace Go.Proofs.YtfcoplplkbeljaaGreatDoor
set_option linter.unusedVariables false
set_option linter.unusedSimpArgs false
open Go Go.RowKit

/-- The word of a kind. -/
def wordT (k : Int) : ByteArray := if k = 1 then ⟨#[97, 120, 105, 111, 109]⟩ else if k = 2 then ⟨#[112, 114, 101, 109, 105, 115, 101]⟩ else ⟨#[97, 115, 115, 117, 109, 101]⟩
/-- The line of a premise with a rank of one digit: its first part, with the rank, with the source. -/
def premT0 (p : Pm) : ByteArray := wordT p.kind ++ ⟨#[32]⟩ ++ litT p.lit
def premT1 (p : Pm) (n : Nat) : ByteArray := if p.kind = 2 then premT0 p ++ (⟨#[32]⟩ ++ digT n) else premT0 p
def premT (p : Pm) (n : Nat) : ByteArray := if p.src.size = 0 then premT1 p n else premT1 p n ++ (⟨#[32, 102, 114, 111, 109, 32]⟩ ++ p.src)

set_option maxRecDepth 100000 in
set_option maxHeartbeats 2000000 in
theorem premLine_any (p : Pm) (n : Nat) (hn : n < 10) (hr : p.rank = (n : Int)) (h1 : p.src.size ≤ 12) (h2 : p.lit.name.size ≤ 12) (hk : p.kind = 1 ∨ p.kind = 2 ∨ p.kind = 3) (w : World) (hw : WordsAt w) :
    Calls Tryz.prog 100 #[.agg #[.bool p.lit.neg, .string p.lit.name, .int .i64 p.kind, .int .i64 p.rank, .string p.src]] w fun e w' => e = .returned (.string (premT p n)) ∧ Below w.heap.size w w' := by
  obtain ⟨⟨g, s⟩, kd, rk, sr⟩ := p
  simp only at hr h1 h2 hk ⊢
  subst hr
  have hgr := bgrow w (.cells #[.bool g, .string s, .int .i64 kd, .int .i64 (n : Int), .string sr] 74)
  have HB := hidIt hgr
  have HW := hidIt (hw.go hgr)
  have HK := hidIt (heap_alloc_new w (.cells #[.bool g, .string s, .int .i64 kd, .int .i64 (n : Int), .string sr] 74))
  have hds := dig_size n hn
  have hls := lit_size (x := ⟨g, s⟩) h2
  have HT0 : Hid (premT0 ⟨⟨g, s⟩, kd, n, sr⟩ = wordT kd ++ ⟨#[32]⟩ ++ litT ⟨g, s⟩) := by show _ = _; rfl
  have HT : Hid (premT ⟨⟨g, s⟩, kd, n, sr⟩ n = if sr.size = 0 then (if kd = 2 then premT0 ⟨⟨g, s⟩, kd, n, sr⟩ ++ (⟨#[32]⟩ ++ digT n) else premT0 ⟨⟨g, s⟩, kd, n, sr⟩) else (if kd = 2 then premT0 ⟨⟨g, s⟩, kd, n, sr⟩ ++ (⟨#[32]⟩ ++ digT n) else premT0 ⟨⟨g, s⟩, kd, n, sr⟩) ++ (⟨#[32, 102, 114, 111, 109, 32]⟩ ++ sr)) := by show _ = _; rfl
  generalize premT ⟨⟨g, s⟩, kd, n, sr⟩ n = T at *
  generalize premT0 ⟨⟨g, s⟩, kd, n, sr⟩ = T0 at *
  have HI : Hid (∀ wx : World, Calls Tryz.prog 137 #[.int .i64 (n : Int)] wx fun e w' => e = .returned (.string (digT n)) ∧ w' = wx) := fun wx => Tryz.strconv_Itoa_small n (by omega) wx
  have HM : Hid (∀ wx : World, Calls Tryz.prog 139 #[.agg #[.bool g, .string s]] wx fun e w' => e = .returned (.string (litT ⟨g, s⟩)) ∧ Below wx.heap.size wx w') := fun wx => format_any g s wx (Nat.le_trans h2 (by unfold maxLen; omega))
  generalize digT n = d at *
  generalize litT ⟨g, s⟩ = t at *
  have q1 : ¬ 9223372036854775807 < 5 + 1 + t.size := by omega
  have q2 : ¬ 9223372036854775807 < 7 + 1 + t.size := by omega
  have q3 : ¬ 9223372036854775807 < 6 + 1 + t.size := by omega
  have q4 : ¬ 9223372036854775807 < 1 + d.size := by omega
  have s1 : ¬ 9223372036854775807 < 6 + sr.size := by omega
  have s2 : ¬ 9223372036854775807 < 5 + 1 + t.size + (6 + sr.size) := by omega
  have s3 : ¬ 9223372036854775807 < 6 + 1 + t.size + (6 + sr.size) := by omega
  have s4 : ¬ 9223372036854775807 < 7 + 1 + t.size + (1 + d.size) := by omega
  have s5 : ¬ 9223372036854775807 < 7 + 1 + t.size + (1 + d.size) + (6 + sr.size) := by omega
  have hse : sr.size = sr.toList.length := by rw [Lib.toList_data, Array.length_toList]; rfl
  clear hw hgr hds hls
  by_cases h0 : sr.size = 0
  case' pos =>
    have hl0 : sr.toList = [] := List.eq_nil_of_length_eq_zero (by omega)
    have hle : sr.toList.isEmpty = true := by rw [hl0]; rfl
  case' neg =>
    have hl0 : ¬ sr.toList = [] := fun h => h0 (by rw [hse, h]; rfl)
    have hle : sr.toList.isEmpty = false := by
      cases hc : sr.toList with
      | nil => exact absurd hc hl0
      | cons a l => rfl
  all_goals (
  clear hse
  rcases hk with rfl | rfl | rfl)
  all_goals (
  go_enter Tryz.func100, Tryz.ntmps100
  go_wp2_with fail
  generalize (w.alloc (.cells #[.bool g, .string s, .int .i64 _, .int .i64 (n : Int), .string sr] 74)) = w2 at *
  obtain ⟨p0, p1, p2, p3, p4⟩ := bcell5 HK.out
  have lp := lt_of_block HK.out
  have lg := HW.out.lt
  have X0 : ∀ wx, Ext w2 wx → wx.cell? ⟨w.heap.size, 0, none⟩ = some (.bool g) := fun wx hC => ext_cell p0 lp hC
  have X1 : ∀ wx, Ext w2 wx → wx.cell? ⟨w.heap.size, 1, none⟩ = some (.string s) := fun wx hC => ext_cell p1 lp hC
  have X2 := fun wx (hC : Ext w2 wx) => ext_cell p2 lp hC
  have X3 : ∀ wx, Ext w2 wx → wx.cell? ⟨w.heap.size, 3, none⟩ = some (.int .i64 (n : Int)) := fun wx hC => ext_cell p3 lp hC
  have X4 : ∀ wx, Ext w2 wx → wx.cell? ⟨w.heap.size, 4, none⟩ = some (.string sr) := fun wx hC => ext_cell p4 lp hC
  have Y1 := fun wx (hC : Ext w2 wx) => ext_cell HW.out.c1 lg hC
  have Y2 := fun wx (hC : Ext w2 wx) => ext_cell HW.out.c2 lg hC
  have Y3 := fun wx (hC : Ext w2 wx) => ext_cell HW.out.c3 lg hC
  have H2 : Hid (∀ wx, Ext w2 wx → Calls Tryz.prog 139 #[.agg #[.bool g, .string s]] wx fun e w'' => ∃ u, e = .returned u ∧ Ext w2 w'' ∧ Grows wx w'' ∧ isV (.string t) u w'') := fun wx hC => rel_call hC ((HM.out wx).mono fun e w'' ⟨he, hb⟩ => ⟨_, he, rfl, hb⟩)
  haveI : Nonempty (In (Ext w2)) := Ext.nonempty w2
  refine wp_region_rel (Ext w2) Grows (relTab [(11, isV (.string t))]) (by kernel_rfl) (by kernel_rfl) (by kernel_rfl) (stable_cons (isV_up _) (stable_nil _)) (Ext.start w2) ?_
  repeat (
    refine' walkR_plain (by kernel_rfl) rfl rfl (fun wx hC hL => ?_) ?_
    rotate_left
    · (have hlw := Nat.lt_of_lt_of_le lp (Below.size hC)
       have hlg := Nat.lt_of_lt_of_le lg (Below.size hC)
       simp only [X0 wx hC, X1 wx hC, X2 wx hC, X3 wx hC, X4 wx hC, Y1 wx hC, Y2 wx hC, Y3 wx hC, hlw, hlg, go_sem]; first | done | (go_simp; exact ⟨rfl, rfl⟩))
    simp only [Act.put, List.setIfInBounds_toArray, List.set_cons_zero, List.set_cons_succ])
  refine walkR_rel (by kernel_rfl) rfl rfl (of_decide_eq_true (by kernel_rfl)) (fun wx hC hL => ?_) (fun v hv => ?_)
  · go_simp
    exact H2.out wx hC
  obtain ⟨_, _, rfl⟩ := hv
  simp only [Act.put, List.setIfInBounds_toArray, List.set_cons_zero, List.set_cons_succ]
  repeat (
    refine' walkR_plain (by kernel_rfl) rfl rfl (fun wx hC hL => ?_) ?_
    rotate_left
    · (have hlw := Nat.lt_of_lt_of_le lp (Below.size hC)
       have hlg := Nat.lt_of_lt_of_le lg (Below.size hC)
       simp only [X0 wx hC, X1 wx hC, X2 wx hC, X3 wx hC, X4 wx hC, Y1 wx hC, Y2 wx hC, Y3 wx hC, hlw, hlg, go_sem]; first | done | (go_simp; exact ⟨rfl, rfl⟩))
    simp only [Act.put, List.setIfInBounds_toArray, List.set_cons_zero, List.set_cons_succ])
  refine fun w3 hC3 _ => ?_
  have HB3 := hidIt (HB.out.trans (Below.mono hC3 HB.out.size))
  have HK3 := hidIt (blk_kept2 HK.out hC3)
  clear hC3 X0 X1 X2 X3 X4 Y1 Y2 Y3 H2 lp lg p0 p1 p2 p3 p4 HB HK HW
  obtain ⟨p0, p1, p2, p3, p4⟩ := bcell5 HK3.out
  have lp := lt_of_block HK3.out
  have H0 := hidIt h0
  clear h0
  go_wp2_with fail
  try (
    refine (HI.out w3).mono ?_
    rintro e w4 ⟨rfl, hw4⟩
    subst hw4
    go_wp2_with fail)
  go_ret
  refine ⟨?_, HB3.out⟩
  first
  | (rw [HT.out, if_pos H0.out, if_neg (by decide), HT0.out]; rfl)
  | (rw [HT.out, if_pos H0.out, if_pos (by first | trivial | rfl), HT0.out]; rfl)
  | (rw [HT.out, if_neg H0.out, if_neg (by decide), HT0.out]; rfl)
  | (rw [HT.out, if_neg H0.out, if_pos (by first | trivial | rfl), HT0.out]; rfl))

end Go.Proofs.YtfcoplplkbeljaaGreatDoor

namespace Go.Proofs.YtfcoplplkbeljaaGreatDoor
set_option linter.unusedVariables false
set_option linter.unusedSimpArgs false
open Go Go.RowKit

theorem infoBd : (Tryz.prog.info? 161).map (·.size) = some 2 := by kernel_rfl
theorem info_bd : ∃ j, Tryz.prog.info? 161 = some j ∧ j.size = 2 := by
  have h := infoBd
  cases hj : Tryz.prog.info? 161 with
  | none => rw [hj] at h; cases h
  | some j =>
    rw [hj] at h
    exact ⟨j, rfl, by simpa using h⟩
theorem lies_bd : liesAt Tryz.prog Tryz.prog.depth 161 (2 / Tryz.prog.cellsOf 161) 0 161 1 = true := by kernel_rfl

theorem to_unsafe {w : World} {b : Nat} (hs : w.shape? b = some (161, 2)) : (convert 159 221 (.pointer (some ⟨b, 0, none⟩))).run Tryz.prog w = .ok (.pointer (some ⟨b, 0, none⟩)) w := by
  obtain ⟨j, hj, hz⟩ := info_bd
  exact Lib.run_to_unsafe w ⟨b, 0, none⟩ Tryz.underlying159 Tryz.underlying221 hj (by rw [hz]; decide) hs (by show 0 < 2; decide)
theorem from_unsafe {w : World} {b : Nat} (hs : w.shape? b = some (161, 2)) : (convert 221 159 (.pointer (some ⟨b, 0, none⟩))).run Tryz.prog w = .ok (.pointer (some ⟨b, 0, none⟩)) w := by
  obtain ⟨j, hj, hz⟩ := info_bd
  exact Lib.run_from_unsafe w ⟨b, 0, none⟩ Tryz.underlying221 Tryz.underlying159 hj hs lies_bd
theorem neq_self {w : World} {b : Nat} : (binOp .neq 159 (.pointer (some ⟨b, 0, none⟩)) (.pointer (some ⟨b, 0, none⟩))).run Tryz.prog w = .ok (.bool false) w := by
  obtain ⟨j, hj, hz⟩ := info_bd
  exact Lib.run_neq_ptr_same w ⟨b, 0, none⟩ Tryz.underlying159 hj

set_option maxRecDepth 100000 in
theorem copyCheck_fresh (B b : Nat) (bs : List Value) (w : World) (h : Lib.BuilderAt 161 5 B b (.pointer none) bs w) :
    Calls Tryz.prog 181 #[.pointer (some ⟨b, 0, none⟩)] w fun e w' => e = .returned (.tuple #[]) ∧ w' = w.setCell ⟨b, 0, none⟩ (.pointer (some ⟨b, 0, none⟩)) := by
  have c0 := h.cell0
  have f0 := h.frozen0
  have lb := h.lt
  have hs := h.shape
  have u1 := to_unsafe hs
  have u2 := from_unsafe hs
  have u3 : ∀ w : World, (binOp .neq 159 (.pointer (some ⟨b, 0, none⟩)) (.pointer (some ⟨b, 0, none⟩))).run Tryz.prog w = .ok (.bool false) w := fun w => neq_self
  clear h
  go_enter Tryz.func181, Tryz.ntmps181
  go_wp2_with fail
  rw [run_callFunc_extern Tryz.func206 (by kernel_rfl) (by kernel_rfl) (by kernel_rfl) (e := Extern.AbiNoEscape.same) (by kernel_rfl)]
  rw [Lib.run_noEscape]
  simp only [Result.andThen]
  rw [Oper.upon_value]
  go_wp2_with fail
  go_end0
  exact ⟨rfl, rfl⟩

set_option maxRecDepth 100000 in
theorem copyCheck_used (B b : Nat) (bs : List Value) (w : World) (h : Lib.BuilderAt 161 5 B b (.pointer (some ⟨b, 0, none⟩)) bs w) :
    Calls Tryz.prog 181 #[.pointer (some ⟨b, 0, none⟩)] w fun e w' => e = .returned (.tuple #[]) ∧ w' = w := by
  have c0 := h.cell0
  have lb := h.lt
  have u3 : ∀ w : World, (binOp .neq 159 (.pointer (some ⟨b, 0, none⟩)) (.pointer (some ⟨b, 0, none⟩))).run Tryz.prog w = .ok (.bool false) w := fun w => neq_self
  clear h
  go_enter Tryz.func181, Tryz.ntmps181
  go_wp2_with fail
  go_end0
  exact ⟨rfl, rfl⟩

/-- What copyCheck leaves. -/
theorem copyCheck_any (B b : Nat) (bs : List Value) (w : World) (h : Lib.IsBuilder 161 5 B b bs w) :
    Calls Tryz.prog 181 #[.pointer (some ⟨b, 0, none⟩)] w fun e w' => e = .returned (.tuple #[]) ∧ Lib.BuilderAt 161 5 B b (.pointer (some ⟨b, 0, none⟩)) bs w' ∧ Below B w w' := by
  rcases h with h | h
  · refine (copyCheck_fresh B b bs w h).mono ?_
    rintro e w' ⟨rfl, rfl⟩
    exact ⟨rfl, h.used _, (Below.refl _ _).setCell (p := ⟨b, 0, none⟩) h.1 _⟩
  · refine (copyCheck_used B b bs w h).mono ?_
    rintro e w' ⟨rfl, rfl⟩
    exact ⟨rfl, h, Below.refl _ _⟩

theorem infoB8 : (Tryz.prog.info? 5).map (fun i => (i.zero, i.size, i.bytes)) = some (some (.int .u8 0), 1, 1) := by kernel_rfl

set_option maxRecDepth 100000 in
set_option maxHeartbeats 2000000 in
/-- A text is written behind what the builder holds. -/
theorem write_any (B b : Nat) (bs : List Value) (s : ByteArray) (w : World) (h : Lib.IsBuilder 161 5 B b bs w) (hl : bs.length + s.size ≤ 1000000000) (hB : B ≤ w.heap.size) :
    Calls Tryz.prog 152 #[.pointer (some ⟨b, 0, none⟩), .string s] w fun e w' => e = .returned (.tuple #[.int .i64 s.size, .nilIface]) ∧ Lib.IsBuilder 161 5 B b (bs ++ Lib.strCells s) w' ∧ Below B w w' := by
  obtain ⟨i8, hi8, z0, z1, z2⟩ := info_parts infoB8
  have HH := hidIt h
  clear h
  go_enter Tryz.func152, Tryz.ntmps152
  go_wp2_with fail
  refine (copyCheck_any B b bs w HH.out).mono ?_
  rintro e w1 ⟨rfl, ⟨hBb, v, hblk, hown, hne⟩, hg1⟩
  have e1 : w1.cell? ⟨b, 1, none⟩ = some v := by rw [Lib.cell_of_heap hblk]; rfl
  have lb := lt_of_block hblk
  have HO := hidIt hown
  have HBK := hidIt hblk
  have HG1 := hidIt hg1
  have hB1 : B ≤ w1.heap.size := Nat.le_trans hB hg1.size
  clear HH
  go_wp2_with (at_builtin; refine Lib.wpList_append_own_string _ rfl _ _ 34 9 rfl B 5 i8 Tryz.underlying34 Tryz.underlying9 hi8 z0 z1 z2 _ _ _ rfl HO.out s rfl ?small ?fits ?low ?_)
  case small => unfold maxLen; omega
  case fits => omega
  case low => exact hB1
  intro v2 w2 hown2 hg2 _
  have hk2 : w2.heap[b]? = some (.cells #[.pointer (some ⟨b, 0, none⟩), v] 161 (0, 0)) := (hg2.block b lb (fun e => hne e.symm)).trans HBK.out
  have HB2 := hidIt (Lib.BuilderAt.put (T := 161) (e := 5) (p := .pointer (some ⟨b, 0, none⟩)) hBb hk2 (bs' := bs ++ Lib.strCells s) (by simpa [Lib.strCells_length] using hown2) (by decide))
  have HG2 := hidIt ((HG1.out.grown hg2 hB1 (fun k hk => (HO.out.lt k hk).1)).setCell (p := ⟨b, 1, none⟩) hBb v2)
  have f1 := Lib.frozen_of_heap hk2 1
  have e2 : w2.cell? ⟨b, 1, none⟩ = some v := by rw [Lib.cell_of_heap hk2]; rfl
  have lb2 := lt_of_block hk2
  obtain ⟨ad, ln, cp, rfl⟩ : ∃ ad ln cp, v2 = .slice ad ln cp := by
    rcases hown2.2 with ⟨hv, _⟩ | ⟨_, _, _, hv, _⟩
    · exact ⟨_, _, _, hv⟩
    · exact ⟨_, _, _, hv⟩
  clear hown2 hg2 hk2 hown hblk
  go_wp2_with fail
  go_ret2
  exact ⟨rfl, .inr HB2.out, HG2.out⟩

end Go.Proofs.YtfcoplplkbeljaaGreatDoor

namespace Go.Proofs.YtfcoplplkbeljaaGreatDoor
set_option linter.unusedVariables false
set_option linter.unusedSimpArgs false
open Go Go.RowKit

theorem builder_go {T e : TypeId} {B b : Nat} {bs : List Value} {w w' : World} (h : Lib.IsBuilder T e B b bs w) (hb : Below w.heap.size w w') : Lib.IsBuilder T e B b bs w' := by
  have key : ∀ p, Lib.BuilderAt T e B b p bs w → Lib.BuilderAt T e B b p bs w' := by
    intro p hp
    have hl := hp.lt
    obtain ⟨h1, v, h2, h3, h4⟩ := hp
    refine ⟨h1, v, (hb.block b hl).trans h2, h3.kept (only_of_below hb none) ?_, h4⟩
    cases hv : v.ownBlock with
    | none => exact .inl rfl
    | some x => exact .inr (by simp)
  rcases h with h | h
  · exact .inl (key _ h)
  · exact .inr (key _ h)

/-- A rule base such as a valid one. -/
def PmFit (p : Pm) : Prop := (p.kind = 1 ∨ p.kind = 2 ∨ p.kind = 3) ∧ (0 ≤ p.rank ∧ p.rank ≤ 9) ∧ p.src.size ≤ 12 ∧ p.lit.name.size ≤ 12
def RuFit (r : Ru) : Prop := (0 ≤ r.rank ∧ r.rank ≤ 9) ∧ r.name.size ≤ 12 ∧ r.head.name.size ≤ 12 ∧ (∀ x ∈ r.body, x.name.size ≤ 12) ∧ r.body.length ≤ 4
def PrFit (p : Pr) : Prop := (0 ≤ p.rank ∧ p.rank ≤ 9) ∧ p.rule.size ≤ 12 ∧ p.lit.name.size ≤ 12
def BsFit (b : Bs) : Prop := (∀ p ∈ b.prems, PmFit p) ∧ (∀ r ∈ b.rules, RuFit r) ∧ (∀ p ∈ b.proms, PrFit p) ∧ b.prems.length ≤ 16 ∧ b.rules.length ≤ 24 ∧ b.proms.length ≤ 8

def nlT : ByteArray := ⟨#[10]⟩
def premLn (p : Pm) : ByteArray := premT p p.rank.toNat ++ nlT
def ruleLn (r : Ru) : ByteArray := ruleT r r.rank.toNat ++ nlT
def promLn (p : Pr) : ByteArray := promT p p.rank.toNat ++ nlT
/-- The bytes of the first k lines of a list. -/
def linesB : List ByteArray → Nat → List UInt8
  | _, 0 => []
  | ls, k + 1 => linesB ls k ++ (ls.getD k ⟨#[]⟩).data.toList
theorem linesB_len (m : Nat) (ls : List ByteArray) (h : ∀ x ∈ ls, x.size ≤ m) : ∀ k, (linesB ls k).length ≤ k * m
  | 0 => by simp [linesB]
  | k + 1 => by
    have ih := linesB_len m ls h k
    have e : (linesB ls (k + 1)).length = (linesB ls k).length + (ls.getD k ⟨#[]⟩).size := by
      rw [linesB, List.length_append, Array.length_toList]; rfl
    have hm : (ls.getD k ⟨#[]⟩).size ≤ m := by
      by_cases hk : k < ls.length
      · rw [List.getD_eq_getElem?_getD, List.getElem?_eq_getElem hk]
        exact h _ (List.getElem_mem hk)
      · rw [List.getD_eq_getElem?_getD, List.getElem?_eq_none (by omega)]
        exact Nat.zero_le _
    rw [e, Nat.add_mul, Nat.one_mul]
    omega

theorem builder_new (w : World) : Lib.IsBuilder 161 5 w.heap.size w.heap.size (Lib.byteCells []) (w.alloc (.cells #[.pointer none, .slice none 0 0] 161)) :=
  .inl ⟨Nat.le_refl _, .slice none 0 0, heap_alloc_new w _, ⟨rfl, .inl ⟨rfl, rfl⟩⟩, by simp [Value.ownBlock]⟩
theorem bytes_snoc (l : List UInt8) (s : ByteArray) : Lib.byteCells l ++ Lib.strCells s = Lib.byteCells (l ++ s.data.toList) := by
  unfold Lib.byteCells Lib.strCells
  rw [List.map_append]
theorem linesB_snoc {α : Type} (g : α → ByteArray) (xs : List α) (k : Nat) (hk : k < xs.length) : linesB (xs.map g) (k + 1) = linesB (xs.map g) k ++ (g xs[k]).data.toList := by
  rw [linesB, List.getD_eq_getElem?_getD, List.getElem?_map, List.getElem?_eq_getElem hk]
  rfl

theorem premT_size (p : Pm) (n : Nat) (hn : n < 10) (h1 : p.src.size ≤ 12) (h2 : p.lit.name.size ≤ 12) : (premT p n).size ≤ 60 := by
  have hd := dig_size n hn
  have hl := lit_size h2
  have hw : (wordT p.kind).size ≤ 7 := by
    unfold wordT
    split
    · decide
    · split <;> decide
  have e1 : (⟨#[32]⟩ : ByteArray).size = 1 := rfl
  have e2 : (⟨#[32, 102, 114, 111, 109, 32]⟩ : ByteArray).size = 6 := rfl
  have h0 : (premT0 p).size ≤ 21 := by unfold premT0; rw [ByteArray.size_append, ByteArray.size_append]; omega
  have h3 : (premT1 p n).size ≤ 30 := by
    unfold premT1
    split
    · rw [ByteArray.size_append, ByteArray.size_append]; omega
    · omega
  unfold premT
  split
  · omega
  · rw [ByteArray.size_append, ByteArray.size_append]; omega

theorem ruleT_size (r : Ru) (n : Nat) (hn : n < 10) (h1 : r.name.size ≤ 12) (h2 : r.head.name.size ≤ 12) (h3 : ∀ x ∈ r.body, x.name.size ≤ 12) (h4 : r.body.length ≤ 4) : (ruleT r n).size ≤ 80100 := by
  have hd := dig_size n hn
  have hl := lit_size h2
  have hb := bodyT_size r.body h3 (by omega)
  unfold ruleT
  simp only [ByteArray.size_append]
  have e1 : (⟨#[32]⟩ : ByteArray).size = 1 := rfl
  have e2 : (⟨#[58, 32]⟩ : ByteArray).size = 2 := rfl
  have e3 : (if r.strict then (⟨#[45, 62]⟩ : ByteArray) else ⟨#[61, 62]⟩).size = 2 := by cases r.strict <;> rfl
  have e4 : (if r.strict then (⟨#[115, 116, 114, 105, 99, 116, 32]⟩ : ByteArray) ++ r.name else (⟨#[114, 117, 108, 101, 32]⟩ : ByteArray) ++ r.name ++ ⟨#[32]⟩ ++ digT n).size ≤ 30 := by
    have e5 : (⟨#[115, 116, 114, 105, 99, 116, 32]⟩ : ByteArray).size = 7 := rfl
    have e6 : (⟨#[114, 117, 108, 101, 32]⟩ : ByteArray).size = 5 := rfl
    cases r.strict
    · show ((⟨#[114, 117, 108, 101, 32]⟩ : ByteArray) ++ r.name ++ ⟨#[32]⟩ ++ digT n).size ≤ 30
      simp only [ByteArray.size_append]; omega
    · show ((⟨#[115, 116, 114, 105, 99, 116, 32]⟩ : ByteArray) ++ r.name).size ≤ 30
      simp only [ByteArray.size_append]; omega
  omega
theorem promT_size (p : Pr) (n : Nat) (hn : n < 10) (h1 : p.rule.size ≤ 12) (h2 : p.lit.name.size ≤ 12) : (promT p n).size ≤ 60 := by
  have hd := dig_size n hn
  have hl := lit_size h2
  unfold promT
  simp only [ByteArray.size_append]
  have e1 : (⟨#[32]⟩ : ByteArray).size = 1 := rfl
  have e2 : (⟨#[112, 114, 111, 109, 111, 116, 101, 32]⟩ : ByteArray).size = 8 := rfl
  have e3 : (⟨#[32, 105, 102, 32]⟩ : ByteArray).size = 4 := rfl
  omega

set_option maxRecDepth 100000 in
set_option maxHeartbeats 4000000 in
theorem btext_any (b : Bs) (hf : BsFit b) (v : Value) (w : World) (hv : BaseAt w v b) (hw : WordsAt w) :
    Calls Tryz.prog 107 #[v] w fun e w' => e = .returned (.string ⟨(linesB (b.prems.map premLn) b.prems.length ++ linesB (b.rules.map ruleLn) b.rules.length ++ linesB (b.proms.map promLn) b.proms.length).toArray⟩) ∧ Below w.heap.size w w' := by
  obtain ⟨a1, a2, a3, c1, c2, c3, rfl, m1, n1, m2, n2, m3, n3, hp1, hp2, hp3⟩ := hv.form
  obtain ⟨f1, f2, f3, g1, g2, g3⟩ := hf
  have hl1 : b.prems.length ≤ 9223372036854775807 := by omega
  have hl2 : b.rules.length ≤ 9223372036854775807 := by omega
  have hl3 : b.proms.length ≤ 9223372036854775807 := by omega
  have hgr := bgrow w (.cells #[.slice a1 b.prems.length c1, .slice a2 b.rules.length c2, .slice a3 b.proms.length c3] 32)
  have HP1 := hidIt (RowIn.form (hp1.below hgr))
  have HP2 := hidIt (RowIn.form (hp2.below hgr))
  have HP3 := hidIt (RowIn.form (hp3.below hgr))
  have HW := hidIt (hw.go hgr)
  have HG := hidIt hgr
  have HK := hidIt (heap_alloc_new w (.cells #[.slice a1 b.prems.length c1, .slice a2 b.rules.length c2, .slice a3 b.proms.length c3] 32))
  have hsz := size_alloc w (.cells #[.slice a1 b.prems.length c1, .slice a2 b.rules.length c2, .slice a3 b.proms.length c3] 32)
  clear hp1 hp2 hp3 hv hw n1 n2 n3 m1 m2 m3 hgr
  go_enter Tryz.func107, Tryz.ntmps107
  go_wp2_with fail
  generalize (w.alloc (.cells #[.slice a1 b.prems.length c1, .slice a2 b.rules.length c2, .slice a3 b.proms.length c3] 32)) = wB at *
  rw [← hsz]
  clear hsz
  have HNEW := hidIt (builder_new wB)
  have HGB := hidIt (bgrow wB (.cells #[.pointer none, .slice none 0 0] 161))
  have HS1 : Hid (∀ k, (linesB (b.prems.map premLn) k).length ≤ k * 61) := linesB_len 61 _ (fun x hx => by
    obtain ⟨p, hp, rfl⟩ := List.mem_map.1 hx
    obtain ⟨-, hr, h1, h2⟩ := f1 p hp
    have := premT_size p p.rank.toNat (by omega) h1 h2
    unfold premLn
    rw [ByteArray.size_append]
    have e1 : nlT.size = 1 := rfl
    omega)
  generalize (wB.alloc (.cells #[.pointer none, .slice none 0 0] 161)) = w0 at *
  go_loopw [5, 13] (fun _ i wr => ∃ k : Nat, k ≤ b.prems.length ∧ i = .int .i64 k ∧ Hid (Below wB.heap.size wB wr) ∧ Hid (Lib.IsBuilder 161 5 wB.heap.size wB.heap.size (Lib.byteCells (linesB (b.prems.map premLn) k)) wr)) (fun _ i _ => b.prems.length - (intOf i).toNat)
  case atStart => exact ⟨0, Nat.zero_le _, rfl, HGB, HNEW⟩
  case round =>
    obtain ⟨k, hk, rfl, HBr, HBU⟩ := hrel
    by_cases hlt : k < b.prems.length
    · have hkr := hlt
      obtain ⟨a1', c1', e2, -, -, hrow⟩ := HP1.out
      injection e2 with e2 e3 e4
      subst e2 e4
      obtain ⟨bb, off, rfl, hbl, d0', d1', d2', d3', d4'⟩ := hrow k hkr
      have HFIT := hidIt (f1 _ (List.getElem_mem hkr))
      have HSN := hidIt (linesB_snoc premLn b.prems k hkr)
      have d0 := (HBr.out.cell (p := ⟨bb, off + k * 5, none⟩) hbl).trans d0'
      have d1 := (HBr.out.cell (p := ⟨bb, off + k * 5 + 1, none⟩) hbl).trans d1'
      have d2 := (HBr.out.cell (p := ⟨bb, off + k * 5 + 2, none⟩) hbl).trans d2'
      have d3 := (HBr.out.cell (p := ⟨bb, off + k * 5 + 3, none⟩) hbl).trans d3'
      have d4 := (HBr.out.cell (p := ⟨bb, off + k * 5 + 4, none⟩) hbl).trans d4'
      have hbl2 := Nat.lt_of_lt_of_le hbl HBr.out.size
      have hltI : (k : Int) < (b.prems.length : Int) := by omega
      have hk0 : (0 : Int) ≤ (k : Int) := by omega
      have HSk := hidIt (HS1.out k)
      generalize b.prems[k] = p at *
      clear hrow d0' d1' d2' d3' d4' hbl
      have hgr := bgrow wr (.cells #[.bool p.lit.neg, .string p.lit.name, .int .i64 p.kind, .int .i64 p.rank, .string p.src] 74)
      have HBa := hidIt (HBr.out.trans (Below.mono hgr HBr.out.size))
      have HBUa := hidIt (builder_go HBU.out hgr)
      clear hgr
      obtain ⟨q1, q2, q3, q4⟩ := HFIT.out
      have HQN : Hid (p.rank = ((p.rank.toNat : Nat) : Int)) := (by omega : p.rank = ((p.rank.toNat : Nat) : Int))
      have hps := premT_size p p.rank.toNat (by omega) q3 q4
      have HLN : Hid (premLn p = premT p p.rank.toNat ++ nlT) := by show _ = _; rfl
      go_wp2_with fail
      refine (premLine_any p p.rank.toNat (by omega) HQN.out q3 q4 q1 _ (HW.out.go HBa.out)).mono ?_
      rintro e w1 ⟨rfl, hb1⟩
      have HBb := hidIt (HBa.out.trans (Below.mono hb1 HBa.out.size))
      have HBUb := hidIt (builder_go HBUa.out hb1)
      generalize premT p p.rank.toNat = T at *
      have hcat : ¬ 9223372036854775807 < T.size + 1 := by omega
      clear hb1 HBUa HBa d0 d1 d2 d3 d4 hbl2 q1 q2 q3 q4
      go_wp2_with fail
      refine (write_any wB.heap.size wB.heap.size _ _ w1 HBUb.out ?_ HBb.out.size).mono ?_
      · have := HSk.out
        have e1 : (Lib.byteCells (linesB (b.prems.map premLn) k)).length = (linesB (b.prems.map premLn) k).length := by unfold Lib.byteCells; rw [List.length_map]
        rw [e1, ByteArray.size_append]
        have e2 : (⟨#[10]⟩ : ByteArray).size = 1 := rfl
        omega
      rintro e w2 ⟨rfl, hbu, hb2⟩
      have HBc := hidIt (HBb.out.trans hb2)
      have HBUc : Hid (Lib.IsBuilder 161 5 wB.heap.size wB.heap.size (Lib.byteCells (linesB (b.prems.map premLn) (k + 1))) w2) := by
        show Lib.IsBuilder _ _ _ _ _ _
        rw [HSN.out, HLN.out]
        rw [bytes_snoc] at hbu
        exact hbu
      clear hbu hb2 HBUb HBb hps hcat
      go_wp2_with fail
      go_roundw
      case rel => exact ⟨k + 1, by omega, by go_num, HBc, HBUc⟩
      case measure => simp [intOf]; omega
    · obtain rfl : k = b.prems.length := by omega
      have HKr := hidIt (blk_kept2 HK.out HBr.out)
      obtain ⟨k0, k1, k2⟩ := bcell3 HKr.out
      have lk := lt_of_block HKr.out
      go_wp2_with fail
      clear k0 k1 k2 lk
      generalize hwA : wr = wA at *
      clear hwA
      have HS2 : Hid (∀ k, (linesB (b.rules.map ruleLn) k).length ≤ k * 80101) := linesB_len 80101 _ (fun x hx => by
        obtain ⟨p, hp, rfl⟩ := List.mem_map.1 hx
        obtain ⟨hr, h1, h2, h3, h4⟩ := f2 p hp
        have := ruleT_size p p.rank.toNat (by omega) h1 h2 h3 h4
        unfold ruleLn
        rw [ByteArray.size_append]
        have e1 : nlT.size = 1 := rfl
        omega)
      have HZ1 := hidIt (HS1.out b.prems.length)
      generalize hPe1 : linesB (b.prems.map premLn) b.prems.length = P1 at *
      have HPe1 := hidIt hPe1
      clear hPe1
      clear HS1 HP1 HKr
      go_loopw [7, 25] (fun _ i wr => ∃ k : Nat, k ≤ b.rules.length ∧ i = .int .i64 k ∧ Hid (Below wB.heap.size wB wr) ∧ Hid (Lib.IsBuilder 161 5 wB.heap.size wB.heap.size (Lib.byteCells (P1 ++ linesB (b.rules.map ruleLn) k)) wr)) (fun _ i _ => b.rules.length - (intOf i).toNat)
      case atStart => exact ⟨0, Nat.zero_le _, rfl, HBr, by show Lib.IsBuilder _ _ _ _ _ _; rw [linesB, List.append_nil]; exact HBU.out⟩
      case round =>
        clear HBr HBU
        obtain ⟨k, hk, rfl, HBr, HBU⟩ := hrel
        by_cases hlt : k < b.rules.length
        · have hkr := hlt
          obtain ⟨a2', c2', e2, -, -, hrow⟩ := HP2.out
          injection e2 with e2 e3 e4
          subst e2 e4
          obtain ⟨bb, off, rfl, hbl, bv, d0', d1', d2', d3', d4', d5', hbody'⟩ := hrow k hkr
          have HFIT := hidIt (f2 _ (List.getElem_mem hkr))
          have HSN := hidIt (linesB_snoc ruleLn b.rules k hkr)
          have hbody := hbody'.below HBr.out
          have d0 := (HBr.out.cell (p := ⟨bb, off + k * 6, none⟩) hbl).trans d0'
          have d1 := (HBr.out.cell (p := ⟨bb, off + k * 6 + 1, none⟩) hbl).trans d1'
          have d2 := (HBr.out.cell (p := ⟨bb, off + k * 6 + 2, none⟩) hbl).trans d2'
          have d3 := (HBr.out.cell (p := ⟨bb, off + k * 6 + 3, none⟩) hbl).trans d3'
          have d4 := (HBr.out.cell (p := ⟨bb, off + k * 6 + 4, none⟩) hbl).trans d4'
          have d5 := (HBr.out.cell (p := ⟨bb, off + k * 6 + 5, none⟩) hbl).trans d5'
          have hbl2 := Nat.lt_of_lt_of_le hbl HBr.out.size
          have hltI : (k : Int) < (b.rules.length : Int) := by omega
          have hk0 : (0 : Int) ≤ (k : Int) := by omega
          have HSk := hidIt (HS2.out k)
          generalize b.rules[k] = p at *
          obtain ⟨ab, cb, rfl, -, -, -⟩ := hbody.form
          clear hrow d0' d1' d2' d3' d4' d5' hbl hbody'
          have hgr := bgrow wr (.cells #[.string p.name, .bool p.strict, .int .i64 p.rank, .slice ab p.body.length cb, .bool p.head.neg, .string p.head.name] 64)
          have HBa := hidIt (HBr.out.trans (Below.mono hgr HBr.out.size))
          have HBUa := hidIt (builder_go HBU.out hgr)
          have HYa := hidIt (hbody.below hgr)
          clear hgr hbody
          obtain ⟨q1, q2, q3, q4, q5⟩ := HFIT.out
          have HQN : Hid (p.rank = ((p.rank.toNat : Nat) : Int)) := (by omega : p.rank = ((p.rank.toNat : Nat) : Int))
          have hps := ruleT_size p p.rank.toNat (by omega) q2 q3 q4 q5
          have HLN : Hid (ruleLn p = ruleT p p.rank.toNat ++ nlT) := by show _ = _; rfl
          go_wp2_with fail
          refine (ruleLine_any p p.rank.toNat (by omega) HQN.out q2 q3 q4 (by omega) _ _ _ HYa.out).mono ?_
          rintro e w1 ⟨rfl, hb1⟩
          have HBb := hidIt (HBa.out.trans (Below.mono hb1 HBa.out.size))
          have HBUb := hidIt (builder_go HBUa.out hb1)
          generalize ruleT p p.rank.toNat = T at *
          have hcat : ¬ 9223372036854775807 < T.size + 1 := by omega
          clear hb1 HBUa HBa d0 d1 d2 d3 d4 d5 hbl2 q1 q2 q3 q4 q5 HYa
          go_wp2_with fail
          refine (write_any wB.heap.size wB.heap.size _ _ w1 HBUb.out ?_ HBb.out.size).mono ?_
          · have := HSk.out
            have hz := HZ1.out
            have e1 : (Lib.byteCells (P1 ++ linesB (b.rules.map ruleLn) k)).length = P1.length + (linesB (b.rules.map ruleLn) k).length := by unfold Lib.byteCells; rw [List.length_map, List.length_append]
            rw [e1, ByteArray.size_append]
            have e2 : (⟨#[10]⟩ : ByteArray).size = 1 := rfl
            omega
          rintro e w2 ⟨rfl, hbu, hb2⟩
          have HBc := hidIt (HBb.out.trans hb2)
          have HBUc : Hid (Lib.IsBuilder 161 5 wB.heap.size wB.heap.size (Lib.byteCells (P1 ++ linesB (b.rules.map ruleLn) (k + 1))) w2) := by
            show Lib.IsBuilder _ _ _ _ _ _
            rw [HSN.out, HLN.out]
            rw [bytes_snoc, List.append_assoc] at hbu
            exact hbu
          clear hbu hb2 HBUb HBb hps hcat
          go_wp2_with fail
          go_roundw
          case rel => exact ⟨k + 1, by omega, by go_num, HBc, HBUc⟩
          case measure => simp [intOf]; omega
        · obtain rfl : k = b.rules.length := by omega
          have HKr := hidIt (blk_kept2 HK.out HBr.out)
          obtain ⟨k0, k1, k2⟩ := bcell3 HKr.out
          have lk := lt_of_block HKr.out
          go_wp2_with fail
          clear k0 k1 k2 lk
          generalize hwC : wr = wC at *
          clear hwC
          have HS3 : Hid (∀ k, (linesB (b.proms.map promLn) k).length ≤ k * 61) := linesB_len 61 _ (fun x hx => by
            obtain ⟨p, hp, rfl⟩ := List.mem_map.1 hx
            obtain ⟨hr, h1, h2⟩ := f3 p hp
            have := promT_size p p.rank.toNat (by omega) h1 h2
            unfold promLn
            rw [ByteArray.size_append]
            have e1 : nlT.size = 1 := rfl
            omega)
          have HZ2 := hidIt (HS2.out b.rules.length)
          generalize hPe2 : linesB (b.rules.map ruleLn) b.rules.length = P2 at *
          have HPe2 := hidIt hPe2
          clear hPe2
          clear HS2 HP2 HKr
          go_loopw [9, 37] (fun _ i wr => ∃ k : Nat, k ≤ b.proms.length ∧ i = .int .i64 k ∧ Hid (Below wB.heap.size wB wr) ∧ Hid (Lib.IsBuilder 161 5 wB.heap.size wB.heap.size (Lib.byteCells (P1 ++ P2 ++ linesB (b.proms.map promLn) k)) wr)) (fun _ i _ => b.proms.length - (intOf i).toNat)
          case atStart => exact ⟨0, Nat.zero_le _, rfl, HBr, by show Lib.IsBuilder _ _ _ _ _ _; rw [linesB, List.append_nil]; exact HBU.out⟩
          case round =>
            clear HBr HBU
            obtain ⟨k, hk, rfl, HBr, HBU⟩ := hrel
            by_cases hlt : k < b.proms.length
            · have hkr := hlt
              obtain ⟨a3', c3', e2, -, -, hrow⟩ := HP3.out
              injection e2 with e2 e3 e4
              subst e2 e4
              obtain ⟨bb, off, rfl, hbl, d0', d1', d2', d3'⟩ := hrow k hkr
              have HFIT := hidIt (f3 _ (List.getElem_mem hkr))
              have HSN := hidIt (linesB_snoc promLn b.proms k hkr)
              have d0 := (HBr.out.cell (p := ⟨bb, off + k * 4, none⟩) hbl).trans d0'
              have d1 := (HBr.out.cell (p := ⟨bb, off + k * 4 + 1, none⟩) hbl).trans d1'
              have d2 := (HBr.out.cell (p := ⟨bb, off + k * 4 + 2, none⟩) hbl).trans d2'
              have d3 := (HBr.out.cell (p := ⟨bb, off + k * 4 + 3, none⟩) hbl).trans d3'
              have hbl2 := Nat.lt_of_lt_of_le hbl HBr.out.size
              have hltI : (k : Int) < (b.proms.length : Int) := by omega
              have hk0 : (0 : Int) ≤ (k : Int) := by omega
              have HSk := hidIt (HS3.out k)
              generalize b.proms[k] = p at *
              clear hrow d0' d1' d2' d3' hbl
              have hgr := bgrow wr (.cells #[.string p.rule, .int .i64 p.rank, .bool p.lit.neg, .string p.lit.name] 78)
              have HBa := hidIt (HBr.out.trans (Below.mono hgr HBr.out.size))
              have HBUa := hidIt (builder_go HBU.out hgr)
              clear hgr
              obtain ⟨q1, q2, q3⟩ := HFIT.out
              have HQN : Hid (p.rank = ((p.rank.toNat : Nat) : Int)) := (by omega : p.rank = ((p.rank.toNat : Nat) : Int))
              have hps := promT_size p p.rank.toNat (by omega) q2 q3
              have HLN : Hid (promLn p = promT p p.rank.toNat ++ nlT) := by show _ = _; rfl
              go_wp2_with fail
              refine (promLine_any p p.rank.toNat (by omega) HQN.out q2 q3 _).mono ?_
              rintro e w1 ⟨rfl, hb1⟩
              have HBb := hidIt (HBa.out.trans (Below.mono hb1 HBa.out.size))
              have HBUb := hidIt (builder_go HBUa.out hb1)
              generalize promT p p.rank.toNat = T at *
              have hcat : ¬ 9223372036854775807 < T.size + 1 := by omega
              clear hb1 HBUa HBa d0 d1 d2 d3 hbl2 q1 q2 q3
              go_wp2_with fail
              refine (write_any wB.heap.size wB.heap.size _ _ w1 HBUb.out ?_ HBb.out.size).mono ?_
              · have := HSk.out
                have hz := HZ1.out
                have hz2 := HZ2.out
                have e1 : (Lib.byteCells (P1 ++ P2 ++ linesB (b.proms.map promLn) k)).length = P1.length + P2.length + (linesB (b.proms.map promLn) k).length := by unfold Lib.byteCells; rw [List.length_map, List.length_append, List.length_append]
                rw [e1, ByteArray.size_append]
                have e2 : (⟨#[10]⟩ : ByteArray).size = 1 := rfl
                omega
              rintro e w2 ⟨rfl, hbu, hb2⟩
              have HBc := hidIt (HBb.out.trans hb2)
              have HBUc : Hid (Lib.IsBuilder 161 5 wB.heap.size wB.heap.size (Lib.byteCells (P1 ++ P2 ++ linesB (b.proms.map promLn) (k + 1))) w2) := by
                show Lib.IsBuilder _ _ _ _ _ _
                rw [HSN.out, HLN.out]
                rw [bytes_snoc, List.append_assoc] at hbu
                exact hbu
              clear hbu hb2 HBUb HBb hps hcat
              go_wp2_with fail
              go_roundw
              case rel => exact ⟨k + 1, by omega, by go_num, HBc, HBUc⟩
              case measure => simp [intOf]; omega
            · obtain rfl : k = b.proms.length := by omega
              have HEND : Hid (⟨(P1 ++ P2 ++ linesB (b.proms.map promLn) b.proms.length).toArray⟩ = (⟨(P1 ++ P2 ++ linesB (b.proms.map promLn) b.proms.length).toArray⟩ : ByteArray)) := by show _ = _; rfl
              go_wp2_with fail
              refine (Tryz.Builder_String_any wB.heap.size wB.heap.size _ wr HBU.out HBr.out.size).mono ?_
              rintro e w1 ⟨rfl, hb1⟩
              have HBz := hidIt (HG.out.trans (Below.mono (HBr.out.trans hb1) HG.out.size))
              clear hb1
              go_wp2_with fail
              go_ret
              refine ⟨?_, HBz.out⟩
              rw [HPe1.out, HPe2.out, List.append_assoc]
              rfl

end Go.Proofs.YtfcoplplkbeljaaGreatDoor

namespace Go.Proofs.YtfcoplplkbeljaaGreatDoor
set_option linter.unusedVariables false
set_option linter.unusedSimpArgs false
open Go Go.RowKit

theorem vn_size {s : ByteArray} (h : vn s = true) : s.size ≤ 12 := by
  unfold vn at h
  rw [Bool.and_eq_true, decide_eq_true_eq] at h
  exact h.1.2
theorem rankB_fit {n : Int} {g : Bool} (h : rankB n g = true) : 0 ≤ n ∧ n ≤ 9 := by
  unfold rankB at h
  cases g
  · have h2 : n = 0 := by simpa using h
    omega
  · simpa using h
theorem srcB_size {s : ByteArray} (h : srcB s = true) : s.size ≤ 12 := by
  unfold srcB at h
  rw [Bool.or_eq_true, decide_eq_true_eq] at h
  rcases h with h | h
  · omega
  · exact vn_size h
theorem errUp_zero {f : Nat → Int} : ∀ n, errUp f n = 0 → ∀ k, k < n → f k = 0
  | 0, _, k, hk => absurd hk (by omega)
  | n + 1, h, k, hk => by
    rw [errUp] at h
    by_cases h0 : errUp f n = 0
    · rw [if_pos h0] at h
      by_cases e : k = n
      · subst e; exact h
      · exact errUp_zero n h0 k (by omega)
    · rw [if_neg h0] at h
      exact absurd h h0
theorem posI_hit {α : Type} {p : α → Bool} {xs : List α} (h : ¬ posI p xs < 0) : ∃ x ∈ xs, p x = true := by
  unfold posI at h
  by_cases hl : xs.findIdx p < xs.length
  · exact ⟨_, List.getElem_mem hl, List.findIdx_getElem⟩
  · rw [if_neg hl] at h
    exact absurd (by decide) h

theorem premE_fit {b : Bs} {p : Pm} {i : Nat} (h : premE b p i = 0) : PmFit p := by
  unfold premE at h
  by_cases h1 : p.kind = 1 ∨ p.kind = 2 ∨ p.kind = 3
  · rw [if_neg (fun h => h h1)] at h
    cases h2 : premB p
    · rw [h2, if_pos rfl] at h; cases h
    · unfold premB at h2
      rw [Bool.and_eq_true, Bool.and_eq_true] at h2
      exact ⟨h1, rankB_fit h2.1.2, srcB_size h2.2, vn_size h2.1.1⟩
  · rw [if_pos h1] at h; cases h
theorem ruleE_fit {b : Bs} {r : Ru} {i : Nat} (h : ruleE b r i = 0) : RuFit r := by
  unfold ruleE at h
  by_cases h4 : 4 < r.body.length
  · rw [if_pos h4] at h; cases h
  · rw [if_neg h4] at h
    cases h2 : ruleB r
    · rw [h2, if_pos rfl] at h; cases h
    · unfold ruleB at h2
      rw [Bool.and_eq_true, Bool.and_eq_true, Bool.and_eq_true] at h2
      obtain ⟨a1, a2, a3, a4⟩ := h2
      refine ⟨rankB_fit a2, vn_size a1, vn_size a3, fun x hx => ?_, by omega⟩
      have h5 : r.body.any badL = false := by simpa using a4
      rw [List.any_eq_false] at h5
      have h6 := h5 x hx
      unfold badL at h6
      exact vn_size (by simpa using h6)
theorem promE_fit {b : Bs} {p : Pr} (hb : ∀ r ∈ b.rules, RuFit r) (h : promE b p = 0) : PrFit p := by
  unfold promE at h
  cases h1 : (rankB p.rank true && vn p.lit.name)
  · rw [h1, if_pos rfl] at h; cases h
  · rw [h1, if_neg (by decide)] at h
    by_cases h2 : posI (hasName p.rule) b.rules < 0
    · rw [if_pos h2] at h; cases h
    · obtain ⟨r, hr, hn⟩ := posI_hit h2
      rw [Bool.and_eq_true] at h1
      refine ⟨rankB_fit h1.1, ?_, vn_size h1.2⟩
      have h3 : r.name.toList = p.rule.toList := by simpa [hasName] using hn
      have h4 : r.name.size = p.rule.size := by
        have e1 : r.name.toList.length = r.name.size := by rw [Lib.toList_data, Array.length_toList]; rfl
        have e2 : p.rule.toList.length = p.rule.size := by rw [Lib.toList_data, Array.length_toList]; rfl
        rw [← e1, ← e2, h3]
      have := (hb r hr).2.1
      omega

/-- A base without an error fits. -/
theorem baseE_fit {b : Bs} (h : baseE b = 0) : BsFit b := by
  unfold baseE at h
  by_cases hbig : 16 < b.prems.length ∨ 24 < b.rules.length ∨ 8 < b.proms.length
  · rw [if_pos hbig] at h; cases h
  · rw [if_neg hbig] at h
    by_cases h1 : errUp (premF b) b.prems.length = 0
    · rw [if_neg (fun k => k h1)] at h
      by_cases h2 : errUp (ruleF b) b.rules.length = 0
      · rw [if_neg (fun k => k h2)] at h
        have f2 : ∀ r ∈ b.rules, RuFit r := fun r hr => by
          obtain ⟨k, hk, rfl⟩ := List.getElem_of_mem hr
          have := errUp_zero _ h2 k hk
          unfold ruleF at this
          rw [dif_pos hk] at this
          exact ruleE_fit this
        refine ⟨fun p hp => ?_, f2, fun p hp => ?_, by omega, by omega, by omega⟩
        · obtain ⟨k, hk, rfl⟩ := List.getElem_of_mem hp
          have := errUp_zero _ h1 k hk
          unfold premF at this
          rw [dif_pos hk] at this
          exact premE_fit this
        · obtain ⟨k, hk, rfl⟩ := List.getElem_of_mem hp
          have := errUp_zero _ h k hk
          unfold promF at this
          rw [dif_pos hk] at this
          exact promE_fit f2 this
      · rw [if_pos h2] at h
        exact absurd h h2
    · rw [if_pos h1] at h
      exact absurd h h1

end Go.Proofs.YtfcoplplkbeljaaGreatDoor

namespace Go.Proofs.YtfcoplplkbeljaaGreatDoor
set_option linter.unusedVariables false
set_option linter.unusedSimpArgs false
open Go Go.RowKit

def textL (b : Bs) : ByteArray := ⟨(linesB (b.prems.map premLn) b.prems.length ++ linesB (b.rules.map ruleLn) b.rules.length ++ linesB (b.proms.map promLn) b.proms.length).toArray⟩
/-- What Format answers: the text and the error. -/
def fmtE5 (b : Bs) : Int := if baseE b = 0 then (if 4096 < (textL b).size then 2 else 0) else baseE b
def fmtT5 (b : Bs) : ByteArray := if fmtE5 b = 0 then textL b else ⟨#[]⟩

set_option maxRecDepth 100000 in
set_option maxHeartbeats 2000000 in
theorem bformat_any (b : Bs) (hb : BsOk b) (v : Value) (w : World) (hv : BaseAt w v b) (hw : WordsAt w) :
    Calls Tryz.prog 57 #[v] w fun e w' => e = .returned (.tuple #[.string (fmtT5 b), .int .i64 (fmtE5 b)]) ∧ Below w.heap.size w w' := by
  obtain ⟨a1, a2, a3, c1, c2, c3, hve, -⟩ := hv.form
  subst hve
  have hgr := bgrow w (.cells #[.slice a1 b.prems.length c1, .slice a2 b.rules.length c2, .slice a3 b.proms.length c3] 32)
  have HV := hidIt (hv.below hgr)
  have HW := hidIt (hw.go hgr)
  have HB := hidIt hgr
  have HK := hidIt (heap_alloc_new w (.cells #[.slice a1 b.prems.length c1, .slice a2 b.rules.length c2, .slice a3 b.proms.length c3] 32))
  have HFIT : Hid (baseE b = 0 → BsFit b) := baseE_fit
  have HFE : Hid (∀ z, baseE b = z → fmtE5 b = if z = 0 then (if 4096 < (textL b).size then 2 else 0) else z) := fun z hz => by unfold fmtE5; rw [hz]
  have HFT : Hid (fmtT5 b = if fmtE5 b = 0 then textL b else ⟨#[]⟩) := by show _ = _; rfl
  generalize fmtT5 b = FT at *
  generalize fmtE5 b = FE at *
  clear hv hw hgr
  go_enter Tryz.func57, Tryz.ntmps57
  go_wp2_with fail
  generalize (w.alloc (.cells #[.slice a1 b.prems.length c1, .slice a2 b.rules.length c2, .slice a3 b.proms.length c3] 32)) = w0 at *
  refine (bvalidate_any b hb _ _ HV.out).mono ?_
  rintro e w1 ⟨rfl, hb1⟩
  have HB1 := hidIt (HB.out.trans (Below.mono hb1 HB.out.size))
  have HV1 := hidIt (HV.out.below hb1)
  have HW1 := hidIt (HW.out.go hb1)
  have HK1 := hidIt (blk_kept2 HK.out hb1)
  clear hb1 HB HV HW HK
  obtain ⟨k0, k1, k2⟩ := bcell3 HK1.out
  have lk := lt_of_block HK1.out
  generalize baseE b = z at *
  by_cases hz : z = 0
  case neg =>
    have hzb : (z == 0) = false := beq_eq_false_iff_ne.2 hz
    have hfe : FE = z := by rw [HFE.out z rfl, if_neg hz]
    have hft : FT = ⟨#[]⟩ := by rw [HFT.out, if_neg (by rw [hfe]; exact hz)]
    have HFe := hidIt hfe
    have HFt := hidIt hft
    clear HFE HFT hfe hft
    go_wp2_with fail
    go_ret2
    refine ⟨?_, HB1.out⟩
    rw [HFe.out, HFt.out]
    rfl
  case pos =>
  subst hz
  have HF := hidIt (HFIT.out rfl)
  have hfe : FE = if 4096 < (textL b).size then 2 else 0 := by rw [HFE.out 0 rfl, if_pos rfl]
  have HFE2 := hidIt hfe
  clear HFIT HFE hfe
  go_wp2_with fail
  refine (btext_any b HF.out _ _ HV1.out HW1.out).mono ?_
  rintro e w2 ⟨he, hb2⟩
  have he2 : e = .returned (.string (textL b)) := he
  subst he2
  clear he
  have HB2 := hidIt (HB1.out.trans (Below.mono hb2 HB1.out.size))
  clear hb2 k0 k1 k2 lk
  generalize textL b = S at *
  by_cases hl : 4096 < S.size
  · have hlI : (4096 : Int) < (S.size : Int) := by omega
    have hfe : FE = 2 := by rw [HFE2.out, if_pos hl]
    have hft : FT = ⟨#[]⟩ := by rw [HFT.out, if_neg (by rw [hfe]; decide)]
    have HFe := hidIt hfe
    have HFt := hidIt hft
    clear HFE2 HFT hfe hft hl
    go_wp2_with fail
    go_ret2
    refine ⟨?_, HB2.out⟩
    rw [HFe.out, HFt.out]
    rfl
  · have hlI : ¬ (4096 : Int) < (S.size : Int) := by omega
    have hfe : FE = 0 := by rw [HFE2.out, if_neg hl]
    have hft : FT = S := by rw [HFT.out, if_pos hfe]
    have HFe := hidIt hfe
    have HFt := hidIt hft
    clear HFE2 HFT hfe hft hl
    go_wp2_with fail
    go_ret2
    refine ⟨?_, HB2.out⟩
    rw [HFe.out, HFt.out]
    rfl

end Go.Proofs.YtfcoplplkbeljaaGreatDoor

namespace Go.Proofs.YtfcoplplkbeljaaGreatDoor
set_option linter.unusedVariables false
set_option linter.unusedSimpArgs false
open Go Go.RowKit

theorem BsFit.ok {b : Bs} (h : BsFit b) : BsOk b := by
  obtain ⟨h1, h2, h3, -⟩ := h
  have m : ∀ n : Nat, n ≤ 12 → n ≤ maxLen := fun n h => by unfold maxLen; omega
  refine ⟨fun p hp => ?_, fun r hr => ?_, fun p hp => ?_⟩
  · obtain ⟨hk, hr, hs, hl⟩ := h1 p hp
    exact ⟨m _ hl, m _ hs, by unfold I64; omega, by unfold I64; omega⟩
  · obtain ⟨hr, hn, hh, hb, -⟩ := h2 r hr
    exact ⟨m _ hn, by unfold I64; omega, m _ hh, fun x hx => m _ (hb x hx)⟩
  · obtain ⟨hr, hn, hl⟩ := h3 p hp
    exact ⟨m _ hn, by unfold I64; omega, m _ hl⟩
end Go.Proofs.YtfcoplplkbeljaaGreatDoor
