/- Subs and Premises at the two leaves. -/
import Derived.Test.YtplkkkkcmfgkfaaGreatA9b
namespace Go.Proofs.YtplkkkkcmfgkfaaGreat
set_option linter.unusedVariables false
set_option linter.unusedSimpArgs false
open Go Go.RowKit Go.Sort

theorem Own1.low {w : World} {A B : Nat} {v : Value} {z : Int} (h : Own1 w B v z) (hA : A ≤ B) : Own1 w A v z :=
  ⟨h.1, by
    rcases h.2 with h0 | ⟨g, cap, cur, hv, hB, hr⟩
    · exact .inl h0
    · exact .inr ⟨g, cap, cur, hv, Nat.le_trans hA hB, hr⟩⟩

theorem subs_leaf (i : Int) (hi : i = 0 ∨ i = 1) (g c : Nat) (w : World) (h : CR w g argC) :
    Calls Tryz.prog 28 #[.slice (some ⟨g, 0, none⟩) 2 c, .int .i64 i] w fun e w' => ∃ v, e = .returned v ∧ Own1 w' w.heap.size v i ∧ Below w.heap.size w w' := by
  have H := hidIt h
  clear h
  rcases hi with rfl | rfl
  · go_enter Tryz.func28, Tryz.ntmps28
    go_wp2_with fail
    refine (reach0 g c _ H.out).mono ?_
    rintro e w1 ⟨v, rfl, ho, hb⟩
    have HO := hidIt ho
    have HB := hidIt hb
    clear ho hb
    go_wp2_with fail
    go_ret
    exact ⟨_, rfl, HO.out, HB.out⟩
  · go_enter Tryz.func28, Tryz.ntmps28
    go_wp2_with fail
    refine (reach1 g c _ H.out).mono ?_
    rintro e w1 ⟨v, rfl, ho, hb⟩
    have HO := hidIt ho
    have HB := hidIt hb
    clear ho hb
    go_wp2_with fail
    go_ret
    exact ⟨_, rfl, HO.out, HB.out⟩

theorem prem1_leaf (i : Int) (hi : i = 0 ∨ i = 1) (m g c : Nat) (w : World) (h : CR w g argC) (hm : CR w m [.slice (some ⟨g, 0, none⟩) 2 c]) :
    Calls Tryz.prog 109 #[.int .i64 i, .pointer (some ⟨m, 0, none⟩)] w fun e w' => e = .returned (.bool false) ∧ w' = w := by
  have y0 := hm.at_ 0 _ rfl
  have ly := hm.1
  have la := h.1
  rcases hi with rfl | rfl
  · have a1 := h.at_ 1 _ rfl
    clear h hm
    go_enter Tryz.func109, Tryz.ntmps109
    go_wp2_with fail
    go_ret
    exact ⟨rfl, rfl⟩
  · have a1 := h.at_ 6 _ rfl
    clear h hm
    go_enter Tryz.func109, Tryz.ntmps109
    go_wp2_with fail
    go_ret
    exact ⟨rfl, rfl⟩

theorem idxInts_leaf (i : Int) (hi : i = 0 ∨ i = 1) (v : Value) (B m g c : Nat) (w : World) (hv : Own1 w B v i) (h : CR w g argC) (hm : CR w m [.slice (some ⟨g, 0, none⟩) 2 c]) :
    Calls Tryz.prog 113 #[v, .func (Fn.func 109) #[] #[.pointer (some ⟨m, 0, none⟩)]] w fun e w' => e = .returned (.int .i64 (-1)) ∧ w' = w := by
  obtain ⟨gv, cv, rfl, -, lv, c0⟩ := hv.slice
  have H := hidIt h
  have HM := hidIt hm
  clear hv h hm
  go_enter Tryz.func113, Tryz.ntmps113
  go_wp2_with fail
  refine wp_loop_rounds 2 ?_
  rw [rounds_succ]
  go_wp2_with fail
  refine (prem1_leaf i hi m g c _ H.out HM.out).mono ?_
  rintro e w1 ⟨rfl, rfl⟩
  go_wp2_with fail
  rw [rounds_succ]
  go_wp2_with fail
  go_ret
  exact ⟨rfl, rfl⟩

theorem delInts_leaf (i : Int) (hi : i = 0 ∨ i = 1) (v : Value) (B m g c : Nat) (w : World) (hv : Own1 w B v i) (h : CR w g argC) (hm : CR w m [.slice (some ⟨g, 0, none⟩) 2 c]) :
    Calls Tryz.prog 110 #[v, .func (Fn.func 109) #[] #[.pointer (some ⟨m, 0, none⟩)]] w fun e w' => e = .returned v ∧ w' = w := by
  have HV := hidIt hv
  have H := hidIt h
  have HM := hidIt hm
  obtain ⟨gv, cv, rfl, -, -, -⟩ := hv.slice
  clear hv h hm
  go_enter Tryz.func110, Tryz.ntmps110
  go_wp2_with fail
  refine (idxInts_leaf i hi _ B m g c _ HV.out H.out HM.out).mono ?_
  rintro e w1 ⟨rfl, rfl⟩
  go_wp2_with fail
  go_ret
  exact ⟨rfl, rfl⟩

theorem premises_leaf (i : Int) (hi : i = 0 ∨ i = 1) (g c : Nat) (w : World) (h : CR w g argC) :
    Calls Tryz.prog 104 #[.slice (some ⟨g, 0, none⟩) 2 c, .int .i64 i] w fun e w' => ∃ v, e = .returned v ∧ Own1 w' w.heap.size v i ∧ Below w.heap.size w w' := by
  have hgr := bgrow w (.cells #[.slice (some ⟨g, 0, none⟩) 2 c] 59)
  have HB := hidIt hgr
  have H1 := hidIt (h.go hgr)
  have HM1 := hidIt (CR.new w [.slice (some ⟨g, 0, none⟩) 2 c] 59)
  clear hgr h
  go_enter Tryz.func104, Tryz.ntmps104
  go_upto_region 1 with (fail)
  rw [show ([Value.slice (some ⟨g, 0, none⟩) 2 c].toArray : Array Value) = #[.slice (some ⟨g, 0, none⟩) 2 c] from rfl] at HM1
  generalize (w.alloc (.cells #[.slice (some ⟨g, 0, none⟩) 2 c] 59)) = w1 at *
  obtain ⟨P, hP⟩ : ∃ P, P = w.heap.size := ⟨_, rfl⟩
  have HP := hidIt hP
  rw [← hP] at HM1 HB ⊢
  clear hP
  have y0 := HM1.out.at_ 0 _ rfl
  have ly := HM1.out.1
  go_wp2_with fail
  refine (subs_leaf i hi g c _ H1.out).mono ?_
  rintro e w2 ⟨v, rfl, ho, hb⟩
  have HO := hidIt ho
  have H2 := hidIt (H1.out.go hb)
  have HM2 := hidIt (HM1.out.go hb)
  have HB2 := hidIt (HB.out.trans (Below.mono hb (Nat.le_of_lt HM1.out.1)))
  have HLE : Hid (P ≤ w1.heap.size) := Nat.le_of_lt HM1.out.1
  clear ho hb y0 ly
  go_wp2_with fail
  refine (delInts_leaf i hi v _ P g c _ HO.out H2.out HM2.out).mono ?_
  rintro e w3 ⟨rfl, rfl⟩
  go_wp2_with fail
  go_ret
  exact ⟨_, rfl, HO.out.low (by rw [← HP.out]; exact HLE.out), by first | exact HB2.out | (rw [HP.out] at HB2; exact HB2.out)⟩
end Go.Proofs.YtplkkkkcmfgkfaaGreat
