/- The reference's Graph, for every number and list of attacks; SameGraph at equal graphs. -/
import Derived.Test.YtplkkkkcmfgkfaaGreatG9G
import Derived.Deep.CutRange
namespace Go.Proofs.YtplkkkkcmfgkfaaGreat
set_option linter.unusedVariables false
set_option linter.unusedSimpArgs false
open Go Go.RowKit Go.Sort

theorem gOk_pairs {n : Int} {xs : List At4} (h : gOk n xs = true) : nrm (prs xs) = refP n.toNat (prs xs) n.toNat 0 := by
  unfold gOk at h
  rw [Bool.and_eq_true, decide_eq_true_eq] at h
  refine nrm_ref _ _ fun x hx => ?_
  obtain ⟨a, ha, rfl⟩ := List.mem_map.1 hx
  have hi := List.all_eq_true.1 h.2 a ha
  unfold inN ixB at hi
  simp only [Bool.and_eq_true, decide_eq_true_eq] at hi
  show (0 ≤ a.f ∧ a.f < ((n.toNat : Nat) : Int)) ∧ 0 ≤ a.t ∧ a.t < ((n.toNat : Nat) : Int)
  omega

/-- The graph that is being made: block G holds n and its list; the result's box is empty yet. -/
structure Gr9 (w : World) (n : Int) (wr : World) (pv : Value) (ps : List (Int × Int)) : Prop where
  box : wr.heap[w.heap.size]? = some (.cells #[.int .i64 0, .slice none 0 0] 33 (0, 0))
  gr : wr.heap[w.heap.size + 1]? = some (.cells #[.int .i64 n, pv] 33 (0, 0))
  own : OwnP wr (w.heap.size + 2) pv ps
  bel : Below w.heap.size w wr
/-- Is there an attack from f to t among the first k? -/
def hasUp (xs : List At4) (f t k : Nat) : Bool := (xs.take k).any fun a => decide (a.f = (f : Int)) && decide (a.t = (t : Int))
theorem hasUp_succ {xs : List At4} {f t k : Nat} (h : k < xs.length) : hasUp xs f t (k + 1) = (hasUp xs f t k || (decide (xs[k].f = (f : Int)) && decide (xs[k].t = (t : Int)))) := by
  unfold hasUp
  rw [List.take_succ_eq_append_getElem h, List.any_append]
  simp
theorem hasUp_all {xs : List At4} {f t : Nat} : hasUp xs f t xs.length = decide (((f : Int), (t : Int)) ∈ prs xs) := by
  unfold hasUp prs
  rw [List.take_length, Bool.eq_iff_iff, List.any_eq_true, decide_eq_true_eq, List.mem_map]
  constructor
  · rintro ⟨a, ha, hb⟩
    rw [Bool.and_eq_true, decide_eq_true_eq, decide_eq_true_eq] at hb
    exact ⟨a, ha, by rw [hb.1, hb.2]⟩
  · rintro ⟨a, ha, hb⟩
    injection hb with h1 h2
    exact ⟨a, ha, by rw [h1, h2]; simp⟩

set_option maxRecDepth 100000 in
set_option maxHeartbeats 4000000 in
theorem r9graph_any (n : Int) (v : Value) (xs : List At4) (hn : -9223372036854775808 ≤ n ∧ n ≤ 9223372036854775807) (hl : xs.length ≤ 1000) (w : World) (h : AtsAt w v xs) :
    Calls Tryz.prog 8 #[.int .i64 n, v] w fun e w' => ∃ gv : Value, e = .returned (.tuple #[.agg #[.int .i64 (if gOk n xs = true then n else 0), gv], .int .i64 (if gOk n xs = true then 0 else 1)]) ∧ PairsAt w' gv (if gOk n xs = true then nrm (prs xs) else []) ∧ Below w.heap.size w w' := by
  have HV := hidIt h
  have HB0 := hidIt (bgrow w (.cells #[.int .i64 0, .slice none 0 0] 33))
  have HZ0 := hidIt (heap_alloc_new w (.cells #[.int .i64 0, .slice none 0 0] 33))
  have HRP := hidIt (@gOk_pairs n xs)
  obtain ⟨hn1, hn2⟩ := hn
  obtain ⟨K, hK⟩ : ∃ K, K = gOk n xs := ⟨_, rfl⟩
  have HK := hidIt hK
  rw [← hK] at HRP ⊢
  clear hK h
  by_cases hr : 0 ≤ n ∧ n ≤ 40
  rotate_left
  · have EK : Hid (K = false) := by show _ = _; rw [HK.out]; unfold gOk; rw [decide_eq_false hr]; rfl
    rw [EK.out]
    have z0 := cell_two0 HZ0.out
    have z1 := cell_two1 HZ0.out
    have lz := lt_of_block HZ0.out
    have f0 := free_any HZ0.out 0
    have f1 := free_any HZ0.out 1
    by_cases hneg : n < 0
    · clear hr
      go_enter Tryz.func8, Tryz.ntmps8
      go_wp2_with fail
      refine bodyPost_ret (v := .tuple #[.agg #[.int .i64 0, .slice none 0 0], .int .i64 1]) (by simp [results, Tryz.results8, go_sem, z0, z1, lz]) rfl ?_
      exact ⟨.slice none 0 0, rfl, .inl ⟨rfl, rfl⟩, by repeat (first | exact HB0.out | refine below_set5 ?_ (Nat.le_refl _))⟩
    · have hbig : 40 < n := by omega
      clear hr
      go_enter Tryz.func8, Tryz.ntmps8
      go_wp2_with fail
      refine bodyPost_ret (v := .tuple #[.agg #[.int .i64 0, .slice none 0 0], .int .i64 1]) (by simp [results, Tryz.results8, go_sem, z0, z1, lz]) rfl ?_
      exact ⟨.slice none 0 0, rfl, .inl ⟨rfl, rfl⟩, by repeat (first | exact HB0.out | refine below_set5 ?_ (Nat.le_refl _))⟩
  obtain ⟨hr1, hr2⟩ := hr
  have hr3 : ¬ n < 0 := by omega
  have hr4 : ¬ 40 < n := by omega
  have HKA : Hid (K = xs.all (inN n)) := by show _ = _; rw [HK.out]; unfold gOk; rw [decide_eq_true ⟨hr1, hr2⟩]; rfl
  clear HK
  obtain ⟨a, c, rfl, hcs⟩ : ∃ (a : Option Addr) (c : Nat), v = .slice a xs.length c ∧ ∀ i (h : i < xs.length), ∃ b off, a = some ⟨b, off, none⟩ ∧ b < w.heap.size ∧ w.cell? ⟨b, off + i * 4, none⟩ = some (.int .i64 xs[i].f) ∧ w.cell? ⟨b, off + i * 4 + 1, none⟩ = some (.int .i64 xs[i].t) ∧ w.cell? ⟨b, off + i * 4 + 2, none⟩ = some (.int .i64 xs[i].s) ∧ w.cell? ⟨b, off + i * 4 + 3, none⟩ = some (.int .i64 xs[i].k) := by
    rcases HV.out with ⟨rfl, rfl⟩ | ⟨b, off, cap, rfl, -, -, h4, h5⟩
    · exact ⟨none, 0, rfl, fun i hi => by simp at hi⟩
    · exact ⟨_, cap, rfl, fun i hi => ⟨b, off, rfl, h4, h5 i hi⟩⟩
  have HCS := hidIt hcs
  clear hcs HV
  have hlI : (xs.length : Int) ≤ 1000 := by omega
  have hw1s : (w.alloc (.cells #[.int .i64 0, .slice none 0 0] 33)).heap.size = w.heap.size + 1 := by simp
  go_enter Tryz.func8, Tryz.ntmps8
  go_wp2_with fail
  generalize (w.alloc (.cells #[.int .i64 0, .slice none 0 0] 33)) = w1 at *
  go_loopw [6] (fun v6 wr => ∃ (k : Nat), v6 = .int .i64 (k : Int) ∧ k ≤ xs.length ∧ Hid ((xs.take k).all (inN n) = true) ∧ wr = w1) (fun v6 _ => xs.length - (intOf v6).toNat)
  case atStart => exact ⟨0, rfl, Nat.zero_le _, (rfl : _ = _), (by first | rfl | trivial)⟩
  case round =>
    obtain ⟨k, rfl, hk, HAL, rfl⟩ := hrel
    by_cases hlt : k < xs.length
    · have hkI : (k : Int) < (xs.length : Int) := by omega
      have hk0 : (0 : Int) ≤ (k : Int) := by omega
      obtain ⟨b, off, rfl, hbl, d0, d1, -, -⟩ := HCS.out k hlt
      have c0 := (Below.cell (p := ⟨b, off + k * 4, none⟩) HB0.out hbl).trans d0
      have c1 := (Below.cell (p := ⟨b, off + k * 4 + 1, none⟩) HB0.out hbl).trans d1
      have hbl' := Nat.lt_of_lt_of_le hbl HB0.out.size
      have HTK : Hid (xs.take (k + 1) = xs.take k ++ [xs[k]]) := List.take_succ_eq_append_getElem hlt
      have HMEM : Hid (xs[k] ∈ xs) := List.getElem_mem hlt
      clear d0 d1
      generalize xs[k] = x at *
      obtain ⟨xf, xt, xsb, xk⟩ := x
      simp only at c0 c1
      have HBAD : Hid (inN n ⟨xf, xt, xsb, xk⟩ = false → K = false) := fun h => by
        rw [HKA.out, List.all_eq_false]
        exact ⟨_, HMEM.out, by rw [h]; decide⟩
      have HIN : Hid (inN n ⟨xf, xt, xsb, xk⟩ = (decide (0 ≤ xf) && decide (xf < n) && (decide (0 ≤ xt) && decide (xt < n)))) := rfl
      obtain ⟨I, hI⟩ : ∃ I, I = inN n ⟨xf, xt, xsb, xk⟩ := ⟨_, rfl⟩
      rw [← hI] at HIN HBAD
      have HI := hidIt hI
      clear hI
      go_upto_region 6 with (fail)
      go_cut [56] from 19 to 57 (fun c wx => c = .bool (!I) ∧ wr = wx)
      case first =>
        by_cases h1 : xf < 0
        · have EI : Hid (I = false) := by show _ = _; rw [HIN.out, decide_eq_false (by omega)]; rfl
          go_wp2_with fail
          go_meet
          exact ⟨by rw [EI.out]; rfl, rfl⟩
        · by_cases h2 : xf < n
          · by_cases h3 : xt < 0
            · have EI : Hid (I = false) := by show _ = _; rw [HIN.out, decide_eq_false (show ¬ 0 ≤ xt by omega), Bool.false_and, Bool.and_false]
              go_wp2_with fail
              go_meet
              exact ⟨by rw [EI.out]; rfl, rfl⟩
            · by_cases h4 : xt < n
              · have EI : Hid (I = true) := by show _ = _; rw [HIN.out, decide_eq_true (show 0 ≤ xf by omega), decide_eq_true h2, decide_eq_true (show 0 ≤ xt by omega), decide_eq_true h4]; rfl
                go_wp2_with fail
                go_meet
                exact ⟨by rw [EI.out, decide_eq_false (show ¬ n ≤ xf by omega), decide_eq_false (show ¬ n ≤ xt by omega)]; rfl, rfl⟩
              · have EI : Hid (I = false) := by show _ = _; rw [HIN.out, decide_eq_false h4, Bool.and_false, Bool.and_false]
                go_wp2_with fail
                go_meet
                exact ⟨by rw [EI.out]; rfl, rfl⟩
          · have EI : Hid (I = false) := by show _ = _; rw [HIN.out, decide_eq_false h2, Bool.and_false, Bool.false_and]
            go_wp2_with fail
            go_meet
            exact ⟨by rw [EI.out]; rfl, rfl⟩
      obtain ⟨rfl, rfl⟩ := hcut
      clear c0 c1
      cases I
      · obtain rfl : K = false := HBAD.out rfl
        have z0 := cell_two0 HZ0.out
        have z1 := cell_two1 HZ0.out
        have lz := lt_of_block HZ0.out
        have f0 := free_any HZ0.out 0
        have f1 := free_any HZ0.out 1
        go_wp2_with fail
        refine bodyPost_ret (v := .tuple #[.agg #[.int .i64 0, .slice none 0 0], .int .i64 1]) (by simp [results, Tryz.results8, go_sem, z0, z1, lz]) rfl ?_
        exact ⟨.slice none 0 0, rfl, .inl ⟨rfl, rfl⟩, by repeat (first | exact HB0.out | refine below_set5 ?_ (Nat.le_refl _))⟩
      · go_wp2_with fail
        go_roundw
        case rel => exact ⟨k + 1, by go_num, hlt, (by show _ = _; rw [HTK.out, List.all_append, HAL.out, Bool.true_and]; show (inN n _ && true) = true; rw [← HI.out]; rfl), (by first | rfl | trivial)⟩
        case measure => simp [intOf]; omega
    · obtain rfl : k = xs.length := by omega
      have hkI : ¬ (xs.length : Int) < (xs.length : Int) := by omega
      rw [List.take_length] at HAL
      obtain rfl : K = true := by rw [HKA.out]; exact HAL.out
      have HRP2 := hidIt (HRP.out rfl)
      clear HRP HKA HAL
      obtain ⟨N, hN⟩ : ∃ N : Nat, N = n.toNat := ⟨_, rfl⟩
      have hNI : n = (N : Int) := by omega
      have hN40 : N ≤ 40 := by omega
      rw [← hN] at HRP2
      clear hN
      subst hNI
      have hgr := bgrow wr (.cells #[.int .i64 (N : Int), .slice none 0 0] 33)
      have hG0 := heap_alloc_new wr (.cells #[.int .i64 (N : Int), .slice none 0 0] 33)
      rw [hw1s] at hG0
      have HG0 : Hid (Gr9 w (N : Int) (wr.alloc (.cells #[.int .i64 (N : Int), .slice none 0 0] 33)) (.slice none 0 0) (refP N (prs xs) 0 0)) := ⟨blk_kept2 HZ0.out hgr, hG0, OwnP.nil _ _, HB0.out.trans (Below.mono hgr HB0.out.size)⟩
      clear hgr hG0 HB0 HZ0
      go_wp2_with fail
      generalize (wr.alloc (.cells #[.int .i64 (N : Int), .slice none 0 0] 33)) = w2 at *
      go_loopw [8, 9, 10, 11] (fun v8 _ _ _ wx => ∃ (f : Nat) (pv : Value), v8 = .int .i64 (f : Int) ∧ f ≤ N ∧ Hid (Gr9 w (N : Int) wx pv (refP N (prs xs) f 0))) (fun v8 _ _ _ _ => N - (intOf v8).toNat)
      case atStart => exact ⟨0, _, rfl, Nat.zero_le _, HG0.out⟩
      case round =>
        clear HG0
        obtain ⟨f, pv, rfl, hf, HG⟩ := hrel
        by_cases hfl : f < N
        · have hfI : (f : Int) < (N : Int) := by omega
          have hf0 : (0 : Int) ≤ (f : Int) := by omega
          go_wp2_with fail
          go_loopw [9, 10, 11] (fun v9 _ _ wx => ∃ (t : Nat) (pv : Value), v9 = .int .i64 (t : Int) ∧ t ≤ N ∧ Hid (Gr9 w (N : Int) wx pv (refP N (prs xs) f t))) (fun v9 _ _ _ => N - (intOf v9).toNat)
          case atStart => exact ⟨0, _, rfl, Nat.zero_le _, HG.out⟩
          case round =>
            clear HG
            obtain ⟨t, pv, rfl, ht, HG⟩ := hrel
            by_cases htl : t < N
            · have htI : (t : Int) < (N : Int) := by omega
              have ht0 : (0 : Int) ≤ (t : Int) := by omega
              rename_i wx
              go_wp2_with fail
              go_loopw [10, 11] (fun v10 v11 wy => ∃ (k : Nat), v10 = .bool (hasUp xs f t k) ∧ v11 = .int .i64 (k : Int) ∧ k ≤ xs.length ∧ wy = wr) (fun _ v11 _ => xs.length - (intOf v11).toNat)
              case atStart => exact ⟨0, rfl, rfl, Nat.zero_le _, (by first | rfl | trivial)⟩
              case round =>
                obtain ⟨k, rfl, rfl, hk, rfl⟩ := hrel
                by_cases hkl : k < xs.length
                · have hkI2 : (k : Int) < (xs.length : Int) := by omega
                  have hk02 : (0 : Int) ≤ (k : Int) := by omega
                  obtain ⟨b, off, rfl, hbl, d0, d1, -, -⟩ := HCS.out k hkl
                  have c0 := (Below.cell (p := ⟨b, off + k * 4, none⟩) HG.out.bel hbl).trans d0
                  have c1 := (Below.cell (p := ⟨b, off + k * 4 + 1, none⟩) HG.out.bel hbl).trans d1
                  have hbl' := Nat.lt_of_lt_of_le hbl HG.out.bel.size
                  have HSU := hidIt (hasUp_succ (f := f) (t := t) hkl)
                  clear d0 d1
                  generalize xs[k] = x at *
                  obtain ⟨xf, xt, xsb, xk⟩ := x
                  simp only at c0 c1
                  cases hu : hasUp xs f t k
                  · by_cases h1 : xf = (f : Int)
                    · have h1b : (xf == (f : Int)) = true := beq_iff_eq.2 h1
                      by_cases h2 : xt = (t : Int)
                      · have h2b : (xt == (t : Int)) = true := beq_iff_eq.2 h2
                        have EU : Hid (hasUp xs f t (k + 1) = true) := by show _ = _; rw [HSU.out, hu]; simp [h1, h2]
                        clear h1 h2
                        go_wp2_with fail
                        go_roundw
                        case rel => exact ⟨k + 1, by rw [EU.out], by go_num, hkl, (by first | rfl | trivial)⟩
                        case measure => simp [intOf]; omega
                      · have h2b : (xt == (t : Int)) = false := beq_eq_false_iff_ne.2 h2
                        have EU : Hid (hasUp xs f t (k + 1) = false) := by show _ = _; rw [HSU.out, hu]; simp [h1, h2]
                        clear h1 h2
                        go_wp2_with fail
                        go_roundw
                        case rel => exact ⟨k + 1, by rw [EU.out], by go_num, hkl, (by first | rfl | trivial)⟩
                        case measure => simp [intOf]; omega
                    · have h1b : (xf == (f : Int)) = false := beq_eq_false_iff_ne.2 h1
                      have EU : Hid (hasUp xs f t (k + 1) = false) := by show _ = _; rw [HSU.out, hu]; simp [h1]
                      clear h1
                      go_wp2_with fail
                      go_roundw
                      case rel => exact ⟨k + 1, by rw [EU.out], by go_num, hkl, (by first | rfl | trivial)⟩
                      case measure => simp [intOf]; omega
                  · have EU : Hid (hasUp xs f t (k + 1) = true) := by show _ = _; rw [HSU.out, hu]; rfl
                    go_wp2_with fail
                    go_roundw
                    case rel => exact ⟨k + 1, by rw [EU.out], by go_num, hkl, (by first | rfl | trivial)⟩
                    case measure => simp [intOf]; omega
                · obtain rfl : k = xs.length := by omega
                  have hkI2 : ¬ (xs.length : Int) < (xs.length : Int) := by omega
                  have HST := hidIt (refP_to N (prs xs) f t)
                  have HHA := hidIt (@hasUp_all xs f t)
                  cases hu : hasUp xs f t xs.length
                  · have HE : Hid (refP N (prs xs) f (t + 1) = refP N (prs xs) f t) := by
                      have h2 := HHA.out
                      rw [hu] at h2
                      show _ = _
                      rw [HST.out, if_neg (of_decide_eq_false h2.symm), List.append_nil]
                    clear hu
                    go_wp2_with fail
                    go_roundw
                    case rel => exact ⟨t + 1, _, by go_num, htl, by show Gr9 _ _ _ _ _; rw [HE.out]; exact HG.out⟩
                    case measure => simp [intOf]; omega
                  · have HE : Hid (refP N (prs xs) f (t + 1) = refP N (prs xs) f t ++ [((f : Int), (t : Int))]) := by
                      have h2 := HHA.out
                      rw [hu] at h2
                      show _ = _
                      rw [HST.out, if_pos (of_decide_eq_true h2.symm)]
                    have hlen := refP_len N (prs xs) f t ht
                    have hlen2 : f * N + t ≤ 2000 := by
                      have := Nat.mul_le_mul (show f ≤ 40 by omega) hN40
                      omega
                    have hps : (refP N (prs xs) f t).length ≤ 2000 := Nat.le_trans hlen hlen2
                    generalize refP N (prs xs) f t = ps at *
                    obtain ⟨pa, pc, rfl, -, -⟩ := shape_own HG.out.own
                    have hgr3 := bgrow wr (.cells #[.int .i64 (f : Int), .int .i64 (t : Int)] 46)
                    have HO3 : Hid (World.ownsRow (wr.alloc (.cells #[.int .i64 (f : Int), .int .i64 (t : Int)] 46)) (w.heap.size + 2) 46 2 (.slice pa ps.length pc) ps.length (ps.flatMap encP)) := HG.out.own.go hgr3
                    have HZ3 := hidIt (blk_kept2 HG.out.box hgr3)
                    have HR3 := hidIt (blk_kept2 HG.out.gr hgr3)
                    have HB3 := hidIt (HG.out.bel.trans (Below.mono hgr3 HG.out.bel.size))
                    have k0 := cell_two0 HG.out.gr
                    have k1 := cell_two1 HG.out.gr
                    have lk := lt_of_block HG.out.gr
                    have hsz3 : w.heap.size + 2 ≤ (wr.alloc (.cells #[.int .i64 (f : Int), .int .i64 (t : Int)] 46)).heap.size := lt_of_block HR3.out
                    clear hgr3 hlen hlen2 hu
                    go_wp2_with (at_builtin; refine Hid.out ?_)
                    refine hidIt ?_
                    refine wpList_append_kb rfl _ _ elemP rfl (w.heap.size + 2) (.slice pa ps.length pc) ps.length _ rfl HO3.out _ 1 rfl #[.int .i64 (f : Int), .int .i64 (t : Int)] 46 (heap_alloc_new _ _) rfl (one_of (by rfl)) (by omega) hsz3 ?_
                    intro g8 c8 w8 hown8 hg8 hbl8
                    have hOB : ∀ g, (Value.slice pa ps.length pc).ownBlock = some g → w.heap.size + 2 ≤ g := fun g e => (owns_blk HO3.out g e).1
                    have hZ8 := (hg8.block w.heap.size (lt_of_block HZ3.out) (fun e => by have := hOB _ e.symm; omega)).trans HZ3.out
                    have hR8 := (hg8.block (w.heap.size + 1) (lt_of_block HR3.out) (fun e => by have := hOB _ e.symm; omega)).trans HR3.out
                    have hB8 := below_app5 HB3.out hg8 (fun g e => by have := hOB g e; omega) (by omega)
                    have HO8 : OwnP w8 (w.heap.size + 2) (.slice (some ⟨g8, 0, none⟩) (ps.length + 1) c8) (ps ++ [((f : Int), (t : Int))]) := by
                      show World.ownsRow _ _ _ _ _ _ _
                      rw [List.length_append, List.flatMap_append]
                      exact hown8
                    have HG9 : Hid (Gr9 w (N : Int) (w8.setCell ⟨w.heap.size + 1, 1, none⟩ (.slice (some ⟨g8, 0, none⟩) (ps.length + 1) c8)) (.slice (some ⟨g8, 0, none⟩) (ps.length + 1) c8) (ps ++ [((f : Int), (t : Int))])) := by
                      refine ⟨?_, set_cells hR8, owns_kept HO8 fun g e => ?_, below_set5 hB8 (Nat.le_succ _)⟩
                      · rw [Below.heap_setCell w8 ⟨w.heap.size + 1, 1, none⟩ _ w.heap.size (by show w.heap.size ≠ w.heap.size + 1; omega)]
                        exact hZ8
                      · have hge := (owns_blk HO8 g e).1
                        exact Below.heap_setCell w8 ⟨w.heap.size + 1, 1, none⟩ _ g (by show g ≠ w.heap.size + 1; omega)
                    have k0' := cell_two0 hR8
                    have k1' := cell_two1 hR8
                    have lk' := lt_of_block hR8
                    have f8 := free_any hR8 1
                    clear hown8 hg8 hbl8 hOB HO3 HZ3 HR3 HB3 hsz3 hZ8 hR8 hB8 HO8 k0 k1 lk
                    go_wp2_with fail
                    go_roundw
                    case rel => exact ⟨t + 1, .slice (some ⟨g8, 0, none⟩) (ps.length + 1) c8, by go_num, htl, by show Gr9 _ _ _ _ _; rw [HE.out]; exact HG9.out⟩
                    case measure => simp [intOf]; omega
            · obtain rfl : t = N := by omega
              have htI : ¬ (t : Int) < (t : Int) := by omega
              go_wp2_with fail
              go_roundw
              case rel => exact ⟨f + 1, _, by go_num, hfl, by show Gr9 _ _ _ _ _; rw [refP_from]; exact HG.out⟩
              case measure => simp [intOf]; omega
        · obtain rfl : f = N := by omega
          have hfI : ¬ (f : Int) < (f : Int) := by omega
          rw [← HRP2.out] at HG
          obtain ⟨pa, pc, rfl, hpc1, hpc2⟩ := shape_own HG.out.own
          have k0 := cell_two0 HG.out.gr
          have k1 := cell_two1 HG.out.gr
          have lk := lt_of_block HG.out.gr
          have z0 := cell_two0 HG.out.box
          have z1 := cell_two1 HG.out.box
          have lz := lt_of_block HG.out.box
          have f0 := free_any HG.out.box 0
          have f1 := free_any HG.out.box 1
          have HBL := hidIt HG.out.bel
          have HPA : Hid (PairsAt ((wr.setCell ⟨w.heap.size, 0, none⟩ (.int .i64 (f : Int))).setCell ⟨w.heap.size, 1, none⟩ (.slice pa (nrm (prs xs)).length pc)) (.slice pa (nrm (prs xs)).length pc) (nrm (prs xs))) := by
            refine (HG.out.own.own.kept (row := some w.heap.size) (only_setCell (only_setCell (only_refl wr (some w.heap.size)) (.inl rfl) _) (.inl rfl) _) (fun g e b cap hv => ?_)).lits
            injection e with e
            have := (owns_blk HG.out.own b (by rw [hv]; rfl)).1
            omega
          generalize hPS : nrm (prs xs) = ps at *
          have HPS := hidIt hPS
          clear hPS
          go_wp2_with fail
          refine bodyPost_ret (v := .tuple #[.agg #[.int .i64 (f : Int), .slice pa ps.length pc], .int .i64 0]) (by simp [results, Tryz.results8, go_sem, z0, z1, lz]) rfl ?_
          exact ⟨.slice pa ps.length pc, rfl, (by first | exact HPA.out | (rw [HPS.out]; exact HPA.out) | (rw [if_pos rfl, HPS.out]; exact HPA.out)), by repeat (first | exact HBL.out | refine below_set5 ?_ (Nat.le_refl _))⟩
end Go.Proofs.YtplkkkkcmfgkfaaGreat
