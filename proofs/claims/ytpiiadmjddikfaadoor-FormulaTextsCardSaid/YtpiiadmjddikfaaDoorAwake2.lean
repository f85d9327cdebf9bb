/- The chapter's examples about formulas, in whatever memory. -/
import Derived.Test.YtpiiadmjddikfaaDoorFParse
import Derived.Test.YtpiiadmjddikfaaDoorFFormat
namespace Go.Proofs.YtpiiadmjddikfaaDoor
set_option linter.unusedVariables false
set_option linter.unusedSimpArgs false
open Go.RowKit

def exT : Tree := .node 7 ⟨#[]⟩ [.node 5 ⟨#[]⟩ [.node 3 ⟨#[97]⟩ [], .node 3 ⟨#[98]⟩ []], .node 3 ⟨#[99]⟩ []]
theorem ex1 : parseT ⟨#[97, 38, 98, 32, 45, 62, 32, 40, 99, 41]⟩ = (exT, 0, 0) := by kernel_rfl
theorem ex2 : parseT ⟨#[97, 32, 60, 45, 62, 32, 98, 32, 60, 45, 62, 32, 99]⟩ = (zeroT, 8, 3) := by kernel_rfl
theorem ex3 : parseT ⟨#[97, 32, 38]⟩ = (zeroT, 3, 3) := by kernel_rfl
theorem ex4 : fmtT exT = ⟨#[97, 32, 38, 32, 98, 32, 45, 62, 32, 99]⟩ := by kernel_rfl
theorem ex5 : fmtI exT = 0 := by kernel_rfl
theorem ex6 : exT.nodes = 5 := by kernel_rfl
theorem ex7 : exT.depth = 2 := by kernel_rfl

/-- Parse at a text whose outcome is known. -/
theorem parse_at (s : ByteArray) (hs : s.size ≤ maxLen) (t : Tree) (m : Nat) (x : Int) (h : parseT s = (t, m, x)) (w : World) (hsg : SignsAt w) :
    Calls Tryd.prog 22 #[.string s] w fun e w' => ∃ (a : Option Addr) (c : Nat), e = .returned (.tuple #[.agg #[.int .i64 t.op, .string t.name, .slice a t.args.length c], .int .i64 (m : Int), .int .i64 x]) ∧
      FormIn w' (fun i => w.heap.size ≤ i) (.agg #[.int .i64 t.op, .string t.name, .slice a t.args.length c]) t ∧ Below w.heap.size w w' :=
  (parse_any s hs w hsg).mono fun e w' ⟨op, nm, a, n, c, he, hf, hb⟩ => by
    rw [h] at he hf
    obtain ⟨rfl, rfl, rfl⟩ := hf.shape
    exact ⟨a, c, he, hf, hb⟩

set_option maxRecDepth 100000 in
set_option maxHeartbeats 2000000 in
theorem awake2_any (w : World) (hsg : SignsAt w) : Calls Tryd.prog 18 #[] w fun e w' => e = .returned (.bool true) ∧ Below w.heap.size w w' := by
  have HSG := hidIt hsg
  clear hsg
  go_enter Tryd.func18, Tryd.ntmps18
  go_wp2_with fail
  refine (parse_at _ (by unfold maxLen; decide) exT 0 0 ex1 w HSG.out).mono ?_
  rintro e w1 ⟨a, c, rfl, hf, hb⟩
  have e1 : exT.op = 7 := rfl
  have e2 : exT.name = ⟨#[]⟩ := rfl
  have e3 : exT.args.length = 2 := rfl
  rw [e1, e2, e3] at hf ⊢
  have HF := hidIt hf.free
  have HB := hidIt hb
  clear hb hf e1 e2 e3
  go_wp2_with fail
  refine (fformat_any exT _ _ (HF.out.go ((Below.refl _ _).alloc (Nat.le_refl _) _))).mono ?_
  rintro e w2 ⟨rfl, hb2⟩
  rw [ex4, ex5]
  have HB2 := hidIt (HB.out.trans ((below_box hb2).mono HB.out.size))
  have HK2 := hidIt (laid_box hb2)
  have hsz2 := lt_of_block HK2.out
  have HF2 := hidIt (HF.out.go (below_box hb2))
  clear hb2 HF
  go_wp2_with fail
  refine (parse_at _ (by unfold maxLen; decide) zeroT 8 3 ex2 w2 (HSG.out.go HB2.out)).mono ?_
  rintro e w3 ⟨a3, c3, rfl, hf3, hb3⟩
  have e1 : zeroT.op = 0 := rfl
  have e2 : zeroT.name = ⟨#[]⟩ := rfl
  have e3 : zeroT.args.length = 0 := rfl
  rw [e1, e2, e3]
  have HB3 := hidIt (HB2.out.trans (hb3.mono HB2.out.size))
  have HK3 := hidIt (blk_kept HK2.out hb3)
  have hsz3 := lt_of_block HK3.out
  have HF3 := hidIt (HF2.out.go hb3)
  clear hb3 HF2 hf3
  go_wp2_with fail
  refine (parse_at _ (by unfold maxLen; decide) zeroT 3 3 ex3 _ (HSG.out.go (HB3.out.alloc HB3.out.size _))).mono ?_
  rintro e w4 ⟨a4, c4, rfl, hf4, hb4⟩
  rw [e1, e2, e3]
  have HB4 := hidIt (HB3.out.trans ((below_box hb4).mono HB3.out.size))
  have HK4 := hidIt (blk_kept HK3.out (below_box hb4))
  have hsz4 := lt_of_block HK4.out
  obtain ⟨p0, p1, p2⟩ := cell_of3 HK4.out
  have HF4 := hidIt (HF3.out.go (below_box hb4))
  clear hb4 hf4 HF3 e1 e2 e3
  go_wp2_with fail
  refine (size_any exT _ _ (HF4.out.go ((Below.refl _ _).alloc (Nat.le_refl _) _)) (by rw [ex6]; omega)).mono ?_
  rintro e w5 ⟨rfl, hb5⟩
  rw [ex6]
  have HB5 := hidIt (HB4.out.trans ((below_box hb5).mono HB4.out.size))
  have HK5 := hidIt (blk_kept HK4.out (below_box hb5))
  have hsz5 := lt_of_block HK5.out
  have HF5 := hidIt (HF4.out.go (below_box hb5))
  clear p0 p1 p2 hb5
  obtain ⟨p0, p1, p2⟩ := cell_of3 HK5.out
  go_wp2_with fail
  refine (depth_any exT _ _ HF5.out (by rw [ex6]; omega)).mono ?_
  rintro e w6 ⟨rfl, hb6⟩
  rw [ex7]
  have HB6 := hidIt (HB5.out.trans (hb6.mono HB5.out.size))
  clear hb6
  go_wp2_with fail
  go_ret
  exact ⟨rfl, HB6.out⟩
end Go.Proofs.YtpiiadmjddikfaaDoor
