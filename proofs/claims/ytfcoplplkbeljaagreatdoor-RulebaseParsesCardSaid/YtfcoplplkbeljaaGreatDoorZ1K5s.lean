/- Literals in ascending order, each once (package keep): the call. -/
import Derived.Test.YtfcoplplkbeljaaGreatDoorZ1M

namespace Go.Proofs.YtfcoplplkbeljaaGreatDoor
set_option linter.unusedVariables false
set_option linter.unusedSimpArgs false
open Go Go.RowKit Go.Sort

/-- A step of a region that copies. -/
theorem step_copy {w w' : World} {ops : Array Oper} {o : Oper} {a : Act} {K : Act → World → Prop} {Q : Exit → Act → World → Prop} {E : Prop} (hgd : o.guard = none) (s x : Operand) {T : TypeId} {v u r : Value}
    (ho : o.op = .call { callee := .builtin .copy, args := #[s, x], argTypes := #[T, T] }) (hs : a.eval s = v) (hx : a.eval x = u)
    (hr : (Builtin.copy_ #[T, T] o.type #[v, u]).run Tryz.prog w = .ok r w') (h : K (a.put o.dst r) w') :
    if Region.wanted o (yielded ops a.tmps) = true then Oper.wp Tryz.prog o a w K Q else E := by
  have hw : Region.wanted o (yielded ops a.tmps) = true := by simp [Region.wanted, hgd]
  rw [if_pos hw]
  unfold Oper.wp execOp
  simp only [ho, resolve, invoke, builtin, Sem.run_bind, Sem.run_pure, Result.andThen_ok, List.map_toArray, List.map_cons, List.map_nil, hs, hx, hr]
  exact h

set_option maxRecDepth 100000 in
set_option maxHeartbeats 4000000 in
theorem sorted_any (xs : List Lt) (hn : xs.length ≤ 1000) (v : Value) (w : World) (hv : BodyAt w v xs) :
    Calls Tryz.prog 50 #[v] w fun e w' => ∃ (v' : Value) (ys : List Lt), e = .returned v' ∧ OwnL w' w.heap.size v' ys ∧ (ys.Pairwise fun a b => ltOf cmpI a b = true) ∧ (∀ y ∈ ys, y ∈ xs) ∧ ys.length ≤ xs.length ∧ Below w.heap.size w w' := by
  obtain ⟨i0, hi0, hz0, hz1, hz2⟩ := info_parts infoL
  obtain ⟨a, cap, rfl, hlen, hcap, hrow⟩ := hv.form
  have HR := hidIt hrow
  clear hrow hv
  go_enter Tryz.func50, Tryz.ntmps50
  go_wp2_with fail
  go_loopw [3, 9] (fun o i wr => ∃ (r : Nat) (ys : List Lt), i = .int .i64 r ∧ r ≤ xs.length ∧ Hid (OwnL wr w.heap.size o ys) ∧ Hid (ys.Pairwise fun a b => ltOf cmpI a b = true) ∧ Hid (∀ y ∈ ys, y ∈ xs) ∧ ys.length ≤ r ∧ Hid (Below w.heap.size w wr)) (fun _ i _ => xs.length - (intOf i).toNat)
  case atStart => exact ⟨0, [], rfl, Nat.zero_le _, OwnL.nil _ _, (show ([] : List Lt).Pairwise _ from List.Pairwise.nil), (show ∀ y ∈ ([] : List Lt), y ∈ xs from fun y hy => by simp at hy), Nat.le_refl _, Below.refl _ _⟩
  case round =>
    obtain ⟨r, ys, rfl, hr, hown, hup, hin, hyl, HB⟩ := hrel
    by_cases hlt : r < xs.length
    · obtain ⟨b, off, rfl, hbl, c0, c1⟩ := HR.out r hlt
      have hltI : (r : Int) < (xs.length : Int) := by omega
      have hk0 : (0 : Int) ≤ (r : Int) := by omega
      have d0 := (HB.out.cell (p := ⟨b, off + r * 2, none⟩) hbl).trans c0
      have d1 := (HB.out.cell (p := ⟨b, off + r * 2 + 1, none⟩) hbl).trans c1
      have hbl2 := Nat.lt_of_lt_of_le hbl HB.out.size
      have HM : Hid (xs[r] ∈ xs) := List.getElem_mem hlt
      clear c0 c1
      generalize xs[r] = x at *
      obtain ⟨g, s⟩ := x
      obtain ⟨ao, co, rfl, hyc, hcm, -⟩ := hown.out.form5
      have HX := hidIt (heap_alloc_new wr (.cells #[.bool g, .string s] 46))
      have HO4 := hidIt (hown.out.go (bgrow wr (.cells #[.bool g, .string s] 46)))
      have HB4 := hidIt (HB.out.trans (Below.mono (bgrow wr (.cells #[.bool g, .string s] 46)) HB.out.size))
      have hXw := HB.out.size
      have HGX : Hid (∀ gg, (Value.slice ao ys.length co).ownBlock = some gg → w.heap.size ≤ gg ∧ gg < wr.heap.size) := fun gg e => hown.out.own_block gg e
      clear hown HB
      go_wp2_with fail
      clear d0 d1 hbl hbl2
      generalize (wr.alloc (.cells #[.bool g, .string s] 46)) = w4 at *
      generalize wr.heap.size = X at *
      go_loopw [6] (fun i wq => ∃ k : Nat, i = .int .i64 k ∧ k ≤ ys.length ∧ Hid (Below w4.heap.size w4 wq) ∧ Hid (∀ j (hj : j < ys.length), j < k → ltOf cmpI ys[j] ⟨g, s⟩ = true)) (fun i _ => ys.length - (intOf i).toNat)
      case atStart => exact ⟨0, rfl, Nat.zero_le _, Below.refl _ _, fun j hj h => absurd h (by omega)⟩
      case round =>
        obtain ⟨k, rfl, hk, HBq, HF⟩ := hrel
        have hXq := blk_kept2 HX.out HBq.out
        have x0 := cell_two0 hXq
        have x1 := cell_two1 hXq
        have lX := lt_of_block hXq
        have HOq := hidIt (HO4.out.go HBq.out)
        have HBw := hidIt (HB4.out.trans (Below.mono HBq.out HB4.out.size))
        have hk0 : (0 : Int) ≤ (k : Int) := by omega
        have HXQ := hidIt hXq
        clear hXq
        by_cases hkl : k < ys.length
        · obtain ⟨gb, rfl, hgB, hgl, e0, e1⟩ := HOq.out.cell5 k hkl
          have hkI : (k : Int) < (ys.length : Int) := by omega
          have HY : Hid (ys[k] = ys[k]) := rfl
          generalize hy : ys[k] = y at e0 e1
          have HYY := hidIt hy
          clear hy HY
          obtain ⟨g', s'⟩ := y
          simp only at e0 e1
          have hgd := fun (op : BinOp) (a b' : Operand) (w : World) => gdL op a b' g' g s' s w
          cases c1 : Op.bytesLess s'.toList s.toList
          · cases c2 : (s'.toList == s.toList)
            · have hq : ∀ w, (Op.equalIn 10000 46 (.agg #[.bool g', .string s']) (.agg #[.bool g, .string s])).run Tryz.prog w = .ok false w := fun w => by rw [eqFieldsL, decide_eq_false]; intro e; injection e with e1 e2; subst e2; simp at c2
              have HGT : Hid (∀ h : k < ys.length, ltOf cmpI ⟨g, s⟩ ys[k] = true) := fun h => by
                  rw [HYY.out]
                  cases hx : ltOf cmpI ⟨g, s⟩ ⟨g', s'⟩
                  · have h2 : ltOf cmpI ⟨g', s'⟩ ⟨g, s⟩ = false := by rw [← ltB_eq]; simp [ltB, c1, c2]
                    have := lt_total _ _ hx h2
                    injection this with e1 e2
                    subst e2
                    simp at c2
                  · rfl
              go_wp2_with fail
              go_quiet (fail)
              go_wp2_with fail
              go_quiet (fail)
              go_wp2_with (at_builtin; refine Hid.out ?_)
              refine hidIt ?_
              refine wpList_append_kb rfl _ _ elemLit rfl w.heap.size (.slice (some ⟨gb, 0, none⟩) ys.length co) ys.length (flatL ys) rfl ?own _ 1 rfl #[.bool false, .string ⟨#[]⟩] 46 ?hm rfl (one_of (by rfl)) (by omega) ?hB ?_
              case own => exact World.ownsRow.alloc (HOq.out : World.ownsRow _ _ _ _ _ _ _) _
              case hm => exact heap_alloc_new _ _
              case hB => have := HBw.out.size; simp; omega
              intro g6 c6 w6 hown6 hg6 hbl6
              have hgX : g6 ≠ X := by
                intro e
                rcases hbl6 with h | h
                · have := (HGX.out g6 h.symm).2
                  omega
                · have h2 : some g6 = some _ := h
                  injection h2 with h2
                  rw [size_alloc] at h2
                  have h3 : g6 = wr.heap.size + 1 := h2
                  omega
              have hg6w := (World.ownsRow.lt hown6 g6 rfl).1
              have hX6 : w6.heap[X]? = some (.cells #[.bool g, .string s] 46 (0, 0)) := (hg6.block X (by rw [size_alloc]; exact Nat.lt_succ_of_lt lX) (fun e => by have := (HGX.out X e.symm).2; omega)).trans ((Below.heap_alloc _ _ X lX).trans HXQ.out)
              have HB6 : Hid (Below w.heap.size w w6) := hidIt (below_app5 (HBw.out.trans (Below.mono (bgrow_drew wr _ _) HBw.out.size)) hg6 (fun gg e => (HGX.out gg e).1) (by have := HBw.out.size; rw [size_alloc]; exact Nat.le_succ_of_le this))
              obtain ⟨w7, rc, hcp, yy, hyy, hown7, hg7⟩ := copy_up2 (P := Tryz.prog) w6.drew 44 3 46 w.heap.size Tryz.underlying44 (by rw [hi0]; simp [hz1]) g6 ys.length k c6 hk (flatL ys) [.bool false, .string ⟨#[]⟩] (flatL_len ys) rfl hown6 (flat_one5 ys)
              have hX7 := (hg7.block X (lt_of_block hX6) (fun e => hgX (by injection e with e; exact e.symm))).trans hX6
              have hg7' : w6.grownBy w7 (some g6) := ⟨hg7.os, hg7.tape, hg7.output, hg7.size, hg7.block⟩
              have HB7 := hidIt (below_app5 HB6.out hg7' (fun gg e => by injection e with e; omega) (by exact HB6.out.size))
              have hc61 : ys.length + 1 ≤ c6 := by
                obtain ⟨a', c', hv, h1, -⟩ := shape_own hown6
                injection hv with _ _ hv3
                omega
              have HOW7 := hidIt hown7
              have y0 := cell_two0 hX7
              have y1 := cell_two1 hX7
              have lX7 := lt_of_block hX7
              have l7 := (World.ownsRow.lt hown7 g6 rfl).2
              have f0 := World.ownsRow.frozenAt hown7 (k * 2)
              have f1 := World.ownsRow.frozenAt hown7 (k * 2 + 1)
              obtain ⟨q0, hq0⟩ : ∃ u, w7.cell? ⟨g6, k * 2, none⟩ = some u := by
                rw [World.ownsRow.cellAt hown7 (k * 2) (by omega)]
                exact ⟨_, List.getElem?_eq_getElem (by rw [hown7.1]; omega)⟩
              obtain ⟨q1, hq1⟩ : ∃ u, w7.cell? ⟨g6, k * 2 + 1, none⟩ = some u := by
                rw [World.ownsRow.cellAt hown7 (k * 2 + 1) (by omega)]
                exact ⟨_, List.getElem?_eq_getElem (by rw [hown7.1]; omega)⟩
              clear hown6 hg6 hbl6 hX6 HB6 hX7 hg7 hg7' hown7 x0 x1 lX
              have hw1 : IntKind.i64.wrap ((k : Int) + 1) = (k : Int) + 1 := by rw [IntKind.wrap_i64]; omega
              have hb1 : (0 : Int) ≤ (k : Int) + 1 := by omega
              have hb2 : (k : Int) ≤ (ys.length : Int) := by omega
              have hb3 : (k : Int) ≤ (ys.length : Int) + 1 := by omega
              have hb4 : (k : Int) < (ys.length : Int) + 1 := by omega
              have hck : ¬ c6 = k := by omega
              go_wp2_with fail
              go_region
              go_wp2_with fail
              go_roundw
              case rel =>
                refine ⟨r + 1, ys.take k ++ ⟨g, s⟩ :: ys.drop k, by go_num, by omega, put_lit (x := ⟨g, s⟩) hk rfl hyy HOW7.out, ins_up hup.out HF.out HGT.out, fun z hz => ?_, by rw [ins_len]; omega, below_set5 (below_set5 HB7.out hg6w) hg6w⟩
                rcases ins_mem hz with rfl | hz
                · exact HM.out
                · exact hin.out z hz
              case measure => simp [intOf]; omega
            · have hss : s' = s := by rw [names_same] at c2; exact of_decide_eq_true c2
              have HSS := hidIt hss
              clear hss
              cases g' <;> cases g
              · have hq : ∀ w, (Op.equalIn 10000 46 (.agg #[.bool false, .string s']) (.agg #[.bool false, .string s])).run Tryz.prog w = .ok true w := fun w => by rw [eqFieldsL, decide_eq_true]; rw [HSS.out]
                go_wp2_with fail
                go_quiet (fail)
                go_wp2_with fail
                go_quiet (fail)
                go_wp2_with fail
                go_roundw
                case rel => exact ⟨r + 1, ys, by go_num, by omega, HOq.out, hup.out, hin.out, by omega, ⟨HBw.out.os, HBw.out.tape, HBw.out.output, HBw.out.size, HBw.out.block⟩⟩
                case measure => simp [intOf]; omega
              · go_wp2_with fail
                go_quiet (fail)
                go_wp2_with fail
                go_roundw
                case rel =>
                  refine ⟨k + 1, by go_num, by omega, ⟨HBq.out.os, HBq.out.tape, HBq.out.output, HBq.out.size, HBq.out.block⟩, fun j hj hjk => ?_⟩
                  by_cases hjj : j < k
                  · exact HF.out j hj hjj
                  · obtain rfl : j = k := by omega
                    rw [HYY.out, ← ltB_eq]
                    simp [ltB, c1, HSS.out]
                case measure => simp [intOf]; omega
              · have hq : ∀ w, (Op.equalIn 10000 46 (.agg #[.bool true, .string s']) (.agg #[.bool false, .string s])).run Tryz.prog w = .ok false w := fun w => by rw [eqFieldsL, decide_eq_false]; intro e; injection e with e1 e2; cases e1
                have HGT : Hid (∀ h : k < ys.length, ltOf cmpI ⟨false, s⟩ ys[k] = true) := fun h => by
                    rw [HYY.out, HSS.out, ← ltB_eq]
                    simp [ltB]
                go_wp2_with fail
                go_quiet (fail)
                go_wp2_with fail
                go_quiet (fail)
                go_wp2_with (at_builtin; refine Hid.out ?_)
                refine hidIt ?_
                refine wpList_append_kb rfl _ _ elemLit rfl w.heap.size (.slice (some ⟨gb, 0, none⟩) ys.length co) ys.length (flatL ys) rfl ?own _ 1 rfl #[.bool false, .string ⟨#[]⟩] 46 ?hm rfl (one_of (by rfl)) (by omega) ?hB ?_
                case own => exact World.ownsRow.alloc (HOq.out : World.ownsRow _ _ _ _ _ _ _) _
                case hm => exact heap_alloc_new _ _
                case hB => have := HBw.out.size; simp; omega
                intro g6 c6 w6 hown6 hg6 hbl6
                have hgX : g6 ≠ X := by
                  intro e
                  rcases hbl6 with h | h
                  · have := (HGX.out g6 h.symm).2
                    omega
                  · have h2 : some g6 = some _ := h
                    injection h2 with h2
                    rw [size_alloc] at h2
                    have h3 : g6 = wr.heap.size + 1 := h2
                    omega
                have hg6w := (World.ownsRow.lt hown6 g6 rfl).1
                have hX6 : w6.heap[X]? = some (.cells #[.bool false, .string s] 46 (0, 0)) := (hg6.block X (by rw [size_alloc]; exact Nat.lt_succ_of_lt lX) (fun e => by have := (HGX.out X e.symm).2; omega)).trans ((Below.heap_alloc _ _ X lX).trans HXQ.out)
                have HB6 : Hid (Below w.heap.size w w6) := hidIt (below_app5 (HBw.out.trans (Below.mono (bgrow_drew wr _ _) HBw.out.size)) hg6 (fun gg e => (HGX.out gg e).1) (by have := HBw.out.size; rw [size_alloc]; exact Nat.le_succ_of_le this))
                obtain ⟨w7, rc, hcp, yy, hyy, hown7, hg7⟩ := copy_up2 (P := Tryz.prog) w6.drew 44 3 46 w.heap.size Tryz.underlying44 (by rw [hi0]; simp [hz1]) g6 ys.length k c6 hk (flatL ys) [.bool false, .string ⟨#[]⟩] (flatL_len ys) rfl hown6 (flat_one5 ys)
                have hX7 := (hg7.block X (lt_of_block hX6) (fun e => hgX (by injection e with e; exact e.symm))).trans hX6
                have hg7' : w6.grownBy w7 (some g6) := ⟨hg7.os, hg7.tape, hg7.output, hg7.size, hg7.block⟩
                have HB7 := hidIt (below_app5 HB6.out hg7' (fun gg e => by injection e with e; omega) (by exact HB6.out.size))
                have hc61 : ys.length + 1 ≤ c6 := by
                  obtain ⟨a', c', hv, h1, -⟩ := shape_own hown6
                  injection hv with _ _ hv3
                  omega
                have HOW7 := hidIt hown7
                have y0 := cell_two0 hX7
                have y1 := cell_two1 hX7
                have lX7 := lt_of_block hX7
                have l7 := (World.ownsRow.lt hown7 g6 rfl).2
                have f0 := World.ownsRow.frozenAt hown7 (k * 2)
                have f1 := World.ownsRow.frozenAt hown7 (k * 2 + 1)
                obtain ⟨q0, hq0⟩ : ∃ u, w7.cell? ⟨g6, k * 2, none⟩ = some u := by
                  rw [World.ownsRow.cellAt hown7 (k * 2) (by omega)]
                  exact ⟨_, List.getElem?_eq_getElem (by rw [hown7.1]; omega)⟩
                obtain ⟨q1, hq1⟩ : ∃ u, w7.cell? ⟨g6, k * 2 + 1, none⟩ = some u := by
                  rw [World.ownsRow.cellAt hown7 (k * 2 + 1) (by omega)]
                  exact ⟨_, List.getElem?_eq_getElem (by rw [hown7.1]; omega)⟩
                clear hown6 hg6 hbl6 hX6 HB6 hX7 hg7 hg7' hown7 x0 x1 lX
                have hw1 : IntKind.i64.wrap ((k : Int) + 1) = (k : Int) + 1 := by rw [IntKind.wrap_i64]; omega
                have hb1 : (0 : Int) ≤ (k : Int) + 1 := by omega
                have hb2 : (k : Int) ≤ (ys.length : Int) := by omega
                have hb3 : (k : Int) ≤ (ys.length : Int) + 1 := by omega
                have hb4 : (k : Int) < (ys.length : Int) + 1 := by omega
                have hck : ¬ c6 = k := by omega
                go_wp2_with fail
                go_region
                go_wp2_with fail
                go_roundw
                case rel =>
                  refine ⟨r + 1, ys.take k ++ ⟨false, s⟩ :: ys.drop k, by go_num, by omega, put_lit (x := ⟨false, s⟩) hk rfl hyy HOW7.out, ins_up hup.out HF.out HGT.out, fun z hz => ?_, by rw [ins_len]; omega, below_set5 (below_set5 HB7.out hg6w) hg6w⟩
                  rcases ins_mem hz with rfl | hz
                  · exact HM.out
                  · exact hin.out z hz
                case measure => simp [intOf]; omega
              · have hq : ∀ w, (Op.equalIn 10000 46 (.agg #[.bool true, .string s']) (.agg #[.bool true, .string s])).run Tryz.prog w = .ok true w := fun w => by rw [eqFieldsL, decide_eq_true]; rw [HSS.out]
                go_wp2_with fail
                go_quiet (fail)
                go_wp2_with fail
                go_quiet (fail)
                go_wp2_with fail
                go_roundw
                case rel => exact ⟨r + 1, ys, by go_num, by omega, HOq.out, hup.out, hin.out, by omega, ⟨HBw.out.os, HBw.out.tape, HBw.out.output, HBw.out.size, HBw.out.block⟩⟩
                case measure => simp [intOf]; omega
          · go_wp2_with fail
            go_quiet (fail)
            go_wp2_with fail
            go_roundw
            case rel =>
              refine ⟨k + 1, by go_num, by omega, ⟨HBq.out.os, HBq.out.tape, HBq.out.output, HBq.out.size, HBq.out.block⟩, fun j hj hjk => ?_⟩
              by_cases hjj : j < k
              · exact HF.out j hj hjj
              · obtain rfl : j = k := by omega
                rw [HYY.out, ← ltB_eq]
                simp [ltB, c1]
            case measure => simp [intOf]; omega
        · have hkI : ¬ (k : Int) < (ys.length : Int) := by omega
          have HGT : Hid (∀ h : k < ys.length, ltOf cmpI ⟨g, s⟩ ys[k] = true) := fun h => absurd h hkl
          go_wp2_with fail
          go_quiet (fail)
          go_wp2_with fail
          go_quiet (fail)
          go_wp2_with (at_builtin; refine Hid.out ?_)
          refine hidIt ?_
          refine wpList_append_kb rfl _ _ elemLit rfl w.heap.size (.slice ao ys.length co) ys.length (flatL ys) rfl ?own _ 1 rfl #[.bool false, .string ⟨#[]⟩] 46 ?hm rfl (one_of (by rfl)) (by omega) ?hB ?_
          case own => exact World.ownsRow.alloc (HOq.out : World.ownsRow _ _ _ _ _ _ _) _
          case hm => exact heap_alloc_new _ _
          case hB => have := HBw.out.size; simp; omega
          intro g6 c6 w6 hown6 hg6 hbl6
          have hgX : g6 ≠ X := by
            intro e
            rcases hbl6 with h | h
            · have := (HGX.out g6 h.symm).2
              omega
            · have h2 : some g6 = some _ := h
              injection h2 with h2
              rw [size_alloc] at h2
              have h3 : g6 = wr.heap.size + 1 := h2
              omega
          have hg6w := (World.ownsRow.lt hown6 g6 rfl).1
          have hX6 : w6.heap[X]? = some (.cells #[.bool g, .string s] 46 (0, 0)) := (hg6.block X (by rw [size_alloc]; exact Nat.lt_succ_of_lt lX) (fun e => by have := (HGX.out X e.symm).2; omega)).trans ((Below.heap_alloc _ _ X lX).trans HXQ.out)
          have HB6 : Hid (Below w.heap.size w w6) := hidIt (below_app5 (HBw.out.trans (Below.mono (bgrow_drew wr _ _) HBw.out.size)) hg6 (fun gg e => (HGX.out gg e).1) (by have := HBw.out.size; rw [size_alloc]; exact Nat.le_succ_of_le this))
          obtain ⟨w7, rc, hcp, yy, hyy, hown7, hg7⟩ := copy_up2 (P := Tryz.prog) w6.drew 44 3 46 w.heap.size Tryz.underlying44 (by rw [hi0]; simp [hz1]) g6 ys.length k c6 hk (flatL ys) [.bool false, .string ⟨#[]⟩] (flatL_len ys) rfl hown6 (flat_one5 ys)
          have hX7 := (hg7.block X (lt_of_block hX6) (fun e => hgX (by injection e with e; exact e.symm))).trans hX6
          have hg7' : w6.grownBy w7 (some g6) := ⟨hg7.os, hg7.tape, hg7.output, hg7.size, hg7.block⟩
          have HB7 := hidIt (below_app5 HB6.out hg7' (fun gg e => by injection e with e; omega) (by exact HB6.out.size))
          have hc61 : ys.length + 1 ≤ c6 := by
            obtain ⟨a', c', hv, h1, -⟩ := shape_own hown6
            injection hv with _ _ hv3
            omega
          have HOW7 := hidIt hown7
          have y0 := cell_two0 hX7
          have y1 := cell_two1 hX7
          have lX7 := lt_of_block hX7
          have l7 := (World.ownsRow.lt hown7 g6 rfl).2
          have f0 := World.ownsRow.frozenAt hown7 (k * 2)
          have f1 := World.ownsRow.frozenAt hown7 (k * 2 + 1)
          obtain ⟨q0, hq0⟩ : ∃ u, w7.cell? ⟨g6, k * 2, none⟩ = some u := by
            rw [World.ownsRow.cellAt hown7 (k * 2) (by omega)]
            exact ⟨_, List.getElem?_eq_getElem (by rw [hown7.1]; omega)⟩
          obtain ⟨q1, hq1⟩ : ∃ u, w7.cell? ⟨g6, k * 2 + 1, none⟩ = some u := by
            rw [World.ownsRow.cellAt hown7 (k * 2 + 1) (by omega)]
            exact ⟨_, List.getElem?_eq_getElem (by rw [hown7.1]; omega)⟩
          clear hown6 hg6 hbl6 hX6 HB6 hX7 hg7 hg7' hown7 x0 x1 lX
          have hw1 : IntKind.i64.wrap ((k : Int) + 1) = (k : Int) + 1 := by rw [IntKind.wrap_i64]; omega
          have hb1 : (0 : Int) ≤ (k : Int) + 1 := by omega
          have hb2 : (k : Int) ≤ (ys.length : Int) := by omega
          have hb3 : (k : Int) ≤ (ys.length : Int) + 1 := by omega
          have hb4 : (k : Int) < (ys.length : Int) + 1 := by omega
          have hck : ¬ c6 = k := by omega
          go_wp2_with fail
          go_region
          go_wp2_with fail
          go_roundw
          case rel =>
            refine ⟨r + 1, ys.take k ++ ⟨g, s⟩ :: ys.drop k, by go_num, by omega, put_lit (x := ⟨g, s⟩) hk rfl hyy HOW7.out, ins_up hup.out HF.out HGT.out, fun z hz => ?_, by rw [ins_len]; omega, below_set5 (below_set5 HB7.out hg6w) hg6w⟩
            rcases ins_mem hz with rfl | hz
            · exact HM.out
            · exact hin.out z hz
          case measure => simp [intOf]; omega
    · have hltI : ¬ (r : Int) < (xs.length : Int) := by omega
      go_wp2_with fail
      go_ret
      first | exact ⟨_, ys, rfl, hown.out, hup.out, hin.out, by omega, HB.out⟩ | exact ⟨_, rfl, ys, hown.out, hup.out, hin.out, by omega, HB.out⟩
end Go.Proofs.YtfcoplplkbeljaaGreatDoor
