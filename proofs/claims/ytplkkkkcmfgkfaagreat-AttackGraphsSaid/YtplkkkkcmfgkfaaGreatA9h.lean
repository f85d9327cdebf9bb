/- The premises of the chapter's two arguments, and their ranks. -/
import Derived.Test.YtplkkkkcmfgkfaaGreatA9f
namespace Go.Proofs.YtplkkkkcmfgkfaaGreat
set_option linter.unusedVariables false
set_option linter.unusedSimpArgs false
open Go Go.RowKit Go.Sort

theorem infoP9 : (Tryz.prog.info? 53).map (fun i => (i.zero, i.size, i.bytes)) = some (some (.agg #[.bool false, .string ⟨#[]⟩, .int .i64 0, .int .i64 0, .string ⟨#[]⟩]), 5, 56) := by kernel_rfl
theorem elemP9 : ElemOf 54 53 5 56 := elem_of Tryz.underlying54 infoP9 rfl (by decide) (by decide)
def cell5 (i : Int) : List Value := [.bool (decide (i = 1)), .string ⟨#[112]⟩, .int .i64 2, .int .i64 (i + 1), .string ⟨#[]⟩]
/-- A list of one premise that the call owns. -/
def OwnPm1 (w : World) (B : Nat) (v : Value) (i : Int) : Prop := w.ownsRow B 53 5 v 1 (cell5 i)
theorem OwnPm1.go {w w' : World} {B : Nat} {v : Value} {z : Int} (h : OwnPm1 w B v z) (hb : Below w.heap.size w w') : OwnPm1 w' B v z := owns_kept h fun g e => hb.block g (owns_blk h g e).2
theorem OwnPm1.slice {w : World} {B : Nat} {v : Value} {i : Int} (h : OwnPm1 w B v i) : ∃ g cap : Nat, v = .slice (some ⟨g, 0, none⟩) 1 cap ∧ B ≤ g ∧ CR w g (cell5 i) := by
  obtain ⟨g, cap, rfl, hg⟩ := owns_slice h
  exact ⟨g, cap, rfl, hg, (owns_blk h g rfl).2, fun j u hj => owns_cell h rfl j u hj⟩
theorem OwnPm1.low {w : World} {A B : Nat} {v : Value} {z : Int} (h : OwnPm1 w B v z) (hA : A ≤ B) : OwnPm1 w A v z :=
  ⟨h.1, by
    rcases h.2 with h0 | ⟨g, cap, cur, hv, hB, hr⟩
    · exact .inl h0
    · exact .inr ⟨g, cap, cur, hv, Nat.le_trans hA hB, hr⟩⟩

set_option maxHeartbeats 1000000 in
theorem premisesOf_leaf (i : Int) (hi : i = 0 ∨ i = 1) (pb pc g c : Nat) (w : World) (h : CR w g argC) (hp : CR w pb premC) :
    Calls Tryz.prog 91 #[.agg #[.slice (some ⟨pb, 0, none⟩) 2 pc, .slice none 0 0, .slice none 0 0], .slice (some ⟨g, 0, none⟩) 2 c, .int .i64 i] w fun e w' => ∃ v, e = .returned v ∧ OwnPm1 w' w.heap.size v i ∧ Below w.heap.size w w' := by
  have hgr := bgrow w (.cells #[.slice (some ⟨pb, 0, none⟩) 2 pc, .slice none 0 0, .slice none 0 0] 58)
  have HB := hidIt hgr
  have H1 := hidIt (h.go hgr)
  have HP1 := hidIt (hp.go hgr)
  have HX := hidIt (heap_alloc_new w (.cells #[.slice (some ⟨pb, 0, none⟩) 2 pc, .slice none 0 0, .slice none 0 0] 58))
  have HLE : Hid (w.heap.size ≤ (w.alloc (.cells #[.slice (some ⟨pb, 0, none⟩) 2 pc, .slice none 0 0, .slice none 0 0] 58)).heap.size) := hgr.size
  clear hgr h hp
  go_enter Tryz.func91, Tryz.ntmps91
  go_upto_region 1 with (fail)
  generalize (w.alloc (.cells #[.slice (some ⟨pb, 0, none⟩) 2 pc, .slice none 0 0, .slice none 0 0] 58)) = w1 at *
  go_wp2_with fail
  refine (premises_leaf i hi g c _ H1.out).mono ?_
  rintro e w2 ⟨v, rfl, ho, hb⟩
  obtain ⟨gv, cv, rfl, -, lv, v0⟩ := ho.slice
  have HP2 := hidIt (HP1.out.go hb)
  have HX2 := hidIt (blk_kept2 HX.out hb)
  have HB2 := hidIt (HB.out.trans (Below.mono hb HLE.out))
  have HL2 : Hid (w.heap.size ≤ w2.heap.size) := Nat.le_trans HLE.out hb.size
  clear ho hb
  have x0 : w2.cell? ⟨w.heap.size, 0, none⟩ = some (.slice (some ⟨pb, 0, none⟩) 2 pc) := by simp [World.cell?, HX2.out]
  have lx := lt_of_block HX2.out
  have lp := HP2.out.1
  go_wp2_with fail
  refine wp_loop_rounds 2 ?_
  rw [rounds_succ]
  go_wp2_with fail
  refine (liIdx_any i 2 _).mono ?_
  rintro e w3 ⟨rfl, rfl⟩
  rw [show ixB i 2 = true by rcases hi with rfl | rfl <;> rfl]
  rcases hi with rfl | rfl
  · have p0 := HP2.out.at_ 0 _ rfl
    have p1 := HP2.out.at_ 1 _ rfl
    have p2 := HP2.out.at_ 2 _ rfl
    have p3 := HP2.out.at_ 3 _ rfl
    have p4 := HP2.out.at_ 4 _ rfl
    go_wp2_with (at_builtin; refine Hid.out ?_)
    refine hidIt ?_
    refine wpList_append_kb rfl _ _ elemP9 rfl w3.heap.size (.slice none 0 0) 0 [] rfl (World.ownsRow_nil _ _ _ _) _ 1 rfl #[.bool false, .string ⟨#[112]⟩, .int .i64 2, .int .i64 1, .string ⟨#[]⟩] 53 (heap_alloc_new _ _) rfl (one_of (by rfl)) (by decide) (bgrow w3 (.cells #[.bool false, .string ⟨#[112]⟩, .int .i64 2, .int .i64 1, .string ⟨#[]⟩] 53)).size ?_
    intro g8 c8 w8 hown8 hg8 hbl8
    have hb8 : Below w3.heap.size w3 w8 := below_app5 (bgrow w3 (.cells #[.bool false, .string ⟨#[112]⟩, .int .i64 2, .int .i64 1, .string ⟨#[]⟩] 53)) hg8 (fun g e => by cases e) (by simp)
    have HB8 := hidIt (HB2.out.trans (Below.mono hb8 HL2.out))
    have HO8 : Hid (OwnPm1 w8 w3.heap.size (.slice (some ⟨g8, 0, none⟩) 1 c8) 0) := hown8
    clear hown8 hg8 hbl8 hb8
    go_wp2_with fail
    rw [rounds_succ]
    go_wp2_with fail
    go_ret
    exact ⟨_, rfl, HO8.out.low HL2.out, HB8.out⟩
  · have p0 := HP2.out.at_ 5 _ rfl
    have p1 := HP2.out.at_ 6 _ rfl
    have p2 := HP2.out.at_ 7 _ rfl
    have p3 := HP2.out.at_ 8 _ rfl
    have p4 := HP2.out.at_ 9 _ rfl
    go_wp2_with (at_builtin; refine Hid.out ?_)
    refine hidIt ?_
    refine wpList_append_kb rfl _ _ elemP9 rfl w3.heap.size (.slice none 0 0) 0 [] rfl (World.ownsRow_nil _ _ _ _) _ 1 rfl #[.bool true, .string ⟨#[112]⟩, .int .i64 2, .int .i64 2, .string ⟨#[]⟩] 53 (heap_alloc_new _ _) rfl (one_of (by rfl)) (by decide) (bgrow w3 (.cells #[.bool true, .string ⟨#[112]⟩, .int .i64 2, .int .i64 2, .string ⟨#[]⟩] 53)).size ?_
    intro g8 c8 w8 hown8 hg8 hbl8
    have hb8 : Below w3.heap.size w3 w8 := below_app5 (bgrow w3 (.cells #[.bool true, .string ⟨#[112]⟩, .int .i64 2, .int .i64 2, .string ⟨#[]⟩] 53)) hg8 (fun g e => by cases e) (by simp)
    have HB8 := hidIt (HB2.out.trans (Below.mono hb8 HL2.out))
    have HO8 : Hid (OwnPm1 w8 w3.heap.size (.slice (some ⟨g8, 0, none⟩) 1 c8) 1) := hown8
    clear hown8 hg8 hbl8 hb8
    go_wp2_with fail
    rw [rounds_succ]
    go_wp2_with fail
    go_ret
    exact ⟨_, rfl, HO8.out.low HL2.out, HB8.out⟩
end Go.Proofs.YtplkkkkcmfgkfaaGreat
