/- Which of the chapter's two attacks fail. -/
import Derived.Test.YtplkkkkcmfgkfaaGreatA9m
import Derived.Test.YtplkkkkcmfgkfaaGreatA9s
namespace Go.Proofs.YtplkkkkcmfgkfaaGreat
set_option linter.unusedVariables false
set_option linter.unusedSimpArgs false
open Go Go.RowKit Go.Sort

/-- What the closure of Defeats has captured: the base, the arguments, the ordering. -/
structure Cap (w : World) (m1 m2 m3 pb pc g c : Nat) : Prop where
  base : CR w m1 [.slice (some ⟨pb, 0, none⟩) 2 pc, .slice none 0 0, .slice none 0 0]
  args : CR w m2 [.slice (some ⟨g, 0, none⟩) 2 c]
  ord : CR w m3 [.int .i64 1, .int .i64 1]
  arg : CR w g argC
  prem : CR w pb premC
theorem Cap.go {w w' : World} {m1 m2 m3 pb pc g c : Nat} (h : Cap w m1 m2 m3 pb pc g c) (hb : Below w.heap.size w w') : Cap w' m1 m2 m3 pb pc g c :=
  ⟨h.base.go hb, h.args.go hb, h.ord.go hb, h.arg.go hb, h.prem.go hb⟩

set_option maxRecDepth 100000 in
set_option maxHeartbeats 1000000 in
theorem fails_leaf (i : Int) (hi : i = 0 ∨ i = 1) (m1 m2 m3 pb pc g c : Nat) (w : World) (h : Cap w m1 m2 m3 pb pc g c) :
    Calls Tryz.prog 33 #[.agg #[.int .i64 i, .int .i64 (1 - i), .int .i64 (1 - i), .int .i64 1], .pointer (some ⟨m1, 0, none⟩), .pointer (some ⟨m2, 0, none⟩), .pointer (some ⟨m3, 0, none⟩)] w fun e w' => e = .returned (.bool (decide (i = 0))) ∧ Below w.heap.size w w' := by
  obtain ⟨k, hk⟩ : ∃ k, k = 1 - i := ⟨_, rfl⟩
  have HK := hidIt hk
  rw [← hk]
  have hk01 : k = 0 ∨ k = 1 := by rcases hi with rfl | rfl <;> simp [hk]
  obtain ⟨R, hR⟩ : ∃ R, R = decide (i = 0) := ⟨_, rfl⟩
  have HR : Hid (decide (i + 1 < k + 1) = R) := by show _ = _; rw [hR, hk]; rcases hi with rfl | rfl <;> rfl
  rw [← hR]
  clear hk hR
  have hgr := bgrow w (.cells #[.int .i64 i, .int .i64 k, .int .i64 k, .int .i64 1] 28)
  have HB := hidIt hgr
  have HC := hidIt (h.go hgr)
  have HX := hidIt (heap_alloc_new w (.cells #[.int .i64 i, .int .i64 k, .int .i64 k, .int .i64 1] 28))
  have HLE : Hid (w.heap.size ≤ (w.alloc (.cells #[.int .i64 i, .int .i64 k, .int .i64 k, .int .i64 1] 28)).heap.size) := hgr.size
  clear hgr h
  go_enter Tryz.func33, Tryz.ntmps33
  go_upto_region 1 with (fail)
  generalize (w.alloc (.cells #[.int .i64 i, .int .i64 k, .int .i64 k, .int .i64 1] 28)) = w1 at *
  obtain ⟨x0, x1, x2, x3⟩ := four0 HX.out
  have lx := lt_of_block HX.out
  have b0 := HC.out.base.at_ 0 _ rfl
  have b1 := HC.out.base.at_ 1 _ rfl
  have b2 := HC.out.base.at_ 2 _ rfl
  have lb := HC.out.base.1
  have a0 := HC.out.args.at_ 0 _ rfl
  have la := HC.out.args.1
  have o0 := HC.out.ord.at_ 0 _ rfl
  have o1 := HC.out.ord.at_ 1 _ rfl
  have lo := HC.out.ord.1
  go_wp2_with fail
  refine (less_leaf i k hi hk01 pb pc g c _ HC.out.arg HC.out.prem).mono ?_
  rintro e w2 ⟨he, hb⟩
  rw [HR.out] at he
  subst he
  have HB2 := hidIt (HB.out.trans (Below.mono hb HLE.out))
  clear hb
  go_wp2_with fail
  all_goals (try go_ret)
  all_goals exact ⟨rfl, HB2.out⟩
end Go.Proofs.YtplkkkkcmfgkfaaGreat
