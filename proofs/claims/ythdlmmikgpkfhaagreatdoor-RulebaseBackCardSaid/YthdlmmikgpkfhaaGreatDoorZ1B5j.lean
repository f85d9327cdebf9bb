/- The lines of the text of a rule base. -/
import Derived.Test.YthdlmmikgpkfhaaGreatDoorZ1B5i
import Derived.Test.YthdlmmikgpkfhaaGreatDoorShelf

namespace Go.Proofs.YthdlmmikgpkfhaaGreatDoor
set_option linter.unusedVariables false
set_option linter.unusedSimpArgs false
open Go Go.RowKit

def litT (x : Lt) : ByteArray := fmtB x.neg x.name
def digT (n : Nat) : ByteArray := ⟨(Lib.decDigits n).toArray⟩
def isV (x : Value) : Value → World → Prop := fun v _ => v = x
theorem isV_up (x : Value) : GoesUp (isV x) := fun _ _ _ _ h => h

theorem dig_size (n : Nat) (h : n < 10) : (digT n).size = 1 := by
  unfold digT
  rw [Lib.decDigits_one h]
  rfl
theorem lit_size {x : Lt} (h : x.name.size ≤ 12) : (litT x).size ≤ 13 := by
  unfold litT fmtB
  cases vn x.name
  · exact Nat.zero_le _
  · cases x.neg
    · exact Nat.le_trans h (by decide)
    · show ((⟨#[126]⟩ : ByteArray) ++ x.name).size ≤ 13
      rw [ByteArray.size_append]
      have : (⟨#[126]⟩ : ByteArray).size = 1 := rfl
      omega

/-- The line of a promotion. -/
def promT (p : Pr) (n : Nat) : ByteArray := ⟨#[112, 114, 111, 109, 111, 116, 101, 32]⟩ ++ p.rule ++ ⟨#[32]⟩ ++ digT n ++ ⟨#[32, 105, 102, 32]⟩ ++ litT p.lit

set_option maxRecDepth 100000 in
set_option maxHeartbeats 2000000 in
theorem promLine_any (p : Pr) (n : Nat) (hn : n < 10) (hr : p.rank = (n : Int)) (h1 : p.rule.size ≤ 12) (h2 : p.lit.name.size ≤ 12) (w : World) :
    Calls Tryz.prog 128 #[.agg #[.string p.rule, .int .i64 p.rank, .bool p.lit.neg, .string p.lit.name]] w fun e w' => e = .returned (.string (promT p n)) ∧ Below w.heap.size w w' := by
  obtain ⟨rl, rk, ⟨g, s⟩⟩ := p
  simp only at hr h1 h2 ⊢
  subst hr
  have HT : Hid (promT ⟨rl, n, ⟨g, s⟩⟩ n = ⟨#[112, 114, 111, 109, 111, 116, 101, 32]⟩ ++ rl ++ ⟨#[32]⟩ ++ digT n ++ ⟨#[32, 105, 102, 32]⟩ ++ litT ⟨g, s⟩) := by show _ = _; rfl
  generalize promT ⟨rl, n, ⟨g, s⟩⟩ n = T at *
  have HB := hidIt (bgrow w (.cells #[.string rl, .int .i64 (n : Int), .bool g, .string s] 68))
  have HK := hidIt (heap_alloc_new w (.cells #[.string rl, .int .i64 (n : Int), .bool g, .string s] 68))
  have hds := dig_size n hn
  have hls := lit_size (x := ⟨g, s⟩) h2
  have HI : Hid (∀ wx : World, Calls Tryz.prog 163 #[.int .i64 (n : Int)] wx fun e w' => e = .returned (.string (digT n)) ∧ w' = wx) := fun wx => Tryz.strconv_Itoa_small n (by omega) wx
  have HM : Hid (∀ wx : World, Calls Tryz.prog 162 #[.agg #[.bool g, .string s]] wx fun e w' => e = .returned (.string (litT ⟨g, s⟩)) ∧ Below wx.heap.size wx w') := fun wx => format_any g s wx (Nat.le_trans h2 (by unfold maxLen; omega))
  generalize digT n = d at *
  generalize litT ⟨g, s⟩ = t at *
  have q1 : ¬ 9223372036854775807 < 8 + rl.size := by omega
  have q2 : ¬ 9223372036854775807 < 8 + rl.size + 1 := by omega
  have q3 : ¬ 9223372036854775807 < 8 + rl.size + 1 + d.size := by omega
  have q4 : ¬ 9223372036854775807 < 8 + rl.size + 1 + d.size + 4 := by omega
  have q5 : ¬ 9223372036854775807 < 8 + rl.size + 1 + d.size + 4 + t.size := by omega
  clear hds hls
  go_enter Tryz.func128, Tryz.ntmps128
  go_wp2_with fail
  generalize (w.alloc (.cells #[.string rl, .int .i64 (n : Int), .bool g, .string s] 68)) = w2 at *
  obtain ⟨p0, p1, p2, p3⟩ := bcell4 HK.out
  have lp := lt_of_block HK.out
  have X0 : ∀ wx, Ext w2 wx → wx.cell? ⟨w.heap.size, 0, none⟩ = some (.string rl) := fun wx hC => ext_cell p0 lp hC
  have X1 : ∀ wx, Ext w2 wx → wx.cell? ⟨w.heap.size, 1, none⟩ = some (.int .i64 (n : Int)) := fun wx hC => ext_cell p1 lp hC
  have X2 : ∀ wx, Ext w2 wx → wx.cell? ⟨w.heap.size, 2, none⟩ = some (.bool g) := fun wx hC => ext_cell p2 lp hC
  have X3 : ∀ wx, Ext w2 wx → wx.cell? ⟨w.heap.size, 3, none⟩ = some (.string s) := fun wx hC => ext_cell p3 lp hC
  have H1 : Hid (∀ wx, Ext w2 wx → Calls Tryz.prog 163 #[.int .i64 (n : Int)] wx fun e w'' => ∃ u, e = .returned u ∧ Ext w2 w'' ∧ Grows wx w'' ∧ isV (.string d) u w'') := fun wx hC => rel_call hC ((HI.out wx).mono fun e w'' ⟨he, hw⟩ => ⟨_, he, rfl, by rw [hw]; exact Below.refl _ _⟩)
  have H2 : Hid (∀ wx, Ext w2 wx → Calls Tryz.prog 162 #[.agg #[.bool g, .string s]] wx fun e w'' => ∃ u, e = .returned u ∧ Ext w2 w'' ∧ Grows wx w'' ∧ isV (.string t) u w'') := fun wx hC => rel_call hC ((HM.out wx).mono fun e w'' ⟨he, hb⟩ => ⟨_, he, rfl, hb⟩)
  clear p0 p1 p2 p3
  haveI : Nonempty (In (Ext w2)) := Ext.nonempty w2
  refine wp_region_rel (Ext w2) Grows (relTab [(9, isV (.string d)), (14, isV (.string t))]) (by kernel_rfl) (by kernel_rfl) (by kernel_rfl) (stable_cons (isV_up _) (stable_cons (isV_up _) (stable_nil _))) (Ext.start w2) ?_
  repeat (
    refine' walkR_plain (by kernel_rfl) rfl rfl (fun wx hC hL => ?_) ?_
    rotate_left
    · (have hlw := Nat.lt_of_lt_of_le lp (Below.size hC)
       simp only [X0 wx hC, X1 wx hC, X2 wx hC, X3 wx hC, hlw, go_sem]; first | done | (go_simp; exact ⟨rfl, rfl⟩))
    simp only [Act.put, List.setIfInBounds_toArray, List.set_cons_zero, List.set_cons_succ])
  refine walkR_rel (by kernel_rfl) rfl rfl (of_decide_eq_true (by kernel_rfl)) (fun wx hC hL => ?_) (fun v hv => ?_)
  · go_simp
    exact H1.out wx hC
  obtain ⟨_, _, rfl⟩ := hv
  simp only [Act.put, List.setIfInBounds_toArray, List.set_cons_zero, List.set_cons_succ]
  repeat (
    refine' walkR_plain (by kernel_rfl) rfl rfl (fun wx hC hL => ?_) ?_
    rotate_left
    · (have hlw := Nat.lt_of_lt_of_le lp (Below.size hC)
       simp only [X0 wx hC, X1 wx hC, X2 wx hC, X3 wx hC, hlw, go_sem]; first | done | (go_simp; exact ⟨rfl, rfl⟩))
    simp only [Act.put, List.setIfInBounds_toArray, List.set_cons_zero, List.set_cons_succ])
  refine walkR_rel (by kernel_rfl) rfl rfl (of_decide_eq_true (by kernel_rfl)) (fun wx hC hL => ?_) (fun v hv => ?_)
  · go_simp
    exact H2.out wx hC
  obtain ⟨_, _, rfl⟩ := hv
  simp only [Act.put, List.setIfInBounds_toArray, List.set_cons_zero, List.set_cons_succ]
  repeat (
    refine' walkR_plain (by kernel_rfl) rfl rfl (fun wx hC hL => ?_) ?_
    rotate_left
    · (have hlw := Nat.lt_of_lt_of_le lp (Below.size hC)
       simp only [X0 wx hC, X1 wx hC, X2 wx hC, X3 wx hC, hlw, go_sem]; first | done | (go_simp; exact ⟨rfl, rfl⟩))
    simp only [Act.put, List.setIfInBounds_toArray, List.set_cons_zero, List.set_cons_succ])
  refine fun w3 hC3 _ => ?_
  have HB3 := hidIt (HB.out.trans (Below.mono hC3 HB.out.size))
  clear hC3 X0 X1 X2 X3 H1 H2 lp
  go_wp2_with fail
  go_ret
  refine ⟨?_, HB3.out⟩
  rw [HT.out]
  rfl

end Go.Proofs.YthdlmmikgpkfhaaGreatDoor
