/- The law FormulaOwn: the call answers true for every list of numbers and every list of strings. -/
import Derived.Test.YtmkcohcpdfabbaaDoorOwnM
import Derived.Test.YtmkcohcpdfabbaaDoorStrsL
import Derived.Test.YtmkcohcpdfabbaaDoorLawsB
import Derived.Test.YtmkcohcpdfabbaaDoorAwake2
import Derived.OwnWalk
namespace Go.Proofs.YtmkcohcpdfabbaaDoor
set_option linter.unusedVariables false
set_option linter.unusedSimpArgs false
open Go Go.RowKit

theorem insS_len (x : ByteArray) : ∀ l, (insS x l).length ≤ l.length + 1
  | [] => by simp [insS]
  | y :: l => by
    unfold insS
    split
    · have := insS_len x l
      simp only [List.length_cons]
      omega
    · split
      · simp
      · simp
theorem ascOf_len (l : List ByteArray) : (ascOf l).length ≤ l.length := by
  have : ∀ (l acc : List ByteArray), (l.foldl (fun acc x => insS x acc) acc).length ≤ acc.length + l.length := by
    intro l
    induction l with
    | nil => intro acc; simp
    | cons x l ih =>
      intro acc
      have h1 := ih (insS x acc)
      have h2 := insS_len x acc
      simp only [List.foldl_cons, List.length_cons]
      omega
  simpa [ascOf] using this l []
theorem atomsT_len (t : Tree) : (atomsT t).length ≤ t.nodes := by
  have h1 := ascOf_len (atomKs (keysT t))
  have h2 := atomKs_len (keysT t)
  rw [keysT_len] at h2
  exact Nat.le_trans h1 h2

/-- Eval in a world that has grown. -/
theorem eval_at {f : Tree} {W : World} {vf : Value} (hv : FormAt W none vf f) {l : List ByteArray} (hn : l.length ≤ 1000000) {ya : Option Addr} {yc : Nat} {S : Nat → Prop} (hy : StrsIn W S ya l) {b : Bool} (hb : evalB f l = b) (x : In (Ext W)) :
    Calls Tryd.prog 32 #[vf, .slice ya l.length yc] x.w fun e w'' => e = .returned (.bool b) ∧ Below x.w.heap.size x.w w'' :=
  (eval_any f vf ya yc l hn x.w (hv.go x.h) ((hy.mono fun _ _ _ => trivial).go x.h)).mono fun e w' ⟨he, hbl⟩ => ⟨by rw [he, hb], hbl⟩

theorem maxNodes4 : maxNodes 4 ≤ 1000 := by decide

set_option maxRecDepth 100000 in
set_option maxHeartbeats 4000000 in
theorem own_walk (v : Value) (zs : List Int) (vm : Value) (more : List ByteArray) (w : World) (hz : IntsAt w w.heap.size v zs) (hm : StrsArg w vm more) (hsg : SignsAt w) :
    Calls Tryd.prog 6 #[v, vm] w fun e w' => e = .returned (.bool true) ∧ Below w.heap.size w w' := by
  have HSG := hidIt hsg
  have HZ := hidIt hz
  obtain ⟨ma, mc, rfl, hml, hmc, hms⟩ := hm
  have HM := hidIt hms
  unfold maxLen at hmc
  clear hsg hz hms
  go_enter Tryd.func6, Tryd.ntmps6
  go_wp2_with fail
  refine (new_any v zs w.heap.size w HZ.out (Nat.le_refl _)).mono ?_
  rintro e w1 ⟨zs1, rfl, hs1, o1, hw1⟩
  have HS1 := hidIt hs1
  have HB1 : Hid (Below w.heap.size w w1) := by rw [hw1]; exact (Below.refl _ _).alloc (Nat.le_refl _) _
  have hsz1 : w.heap.size < w1.heap.size := hs1.lt
  clear hs1 hw1 HZ
  go_wp2_with fail
  refine (sform_any 4 (by omega) (by omega) 4 (by omega) _ _ zs1 0 w1 HS1.out).mono ?_
  rintro e w2 ⟨f, fo, fs, fa, fm, fc, q2, rfl, hf1, hfd, hf3, hs2, hg2⟩
  have hfn : f.nodes ≤ 1000 := Nat.le_trans (gen_nodes f 4 hf1 hfd) maxNodes4
  have HNF : Hid (f.nodes ≤ 1000000) := Nat.le_trans hfn (by decide)
  have hsz2 : w1.heap.size ≤ w2.heap.size := hg2.size
  have HXF : Hid (FBox (w2.alloc (.cells #[.int .i64 fo, .string fs, .slice fa fm fc] 24)) w.heap.size w2.heap.size fo fs fa fm fc f) := ⟨by omega, heap_alloc_new w2 _, FormIn.go (FormIn.mono hf3 (fun i _ hi e => by injection e with e; omega)) (Grows.alloc _ _)⟩
  have HS2 : Hid (SrcAt (w2.alloc (.cells #[.int .i64 fo, .string fs, .slice fa fm fc] 24)) w.heap.size w.heap.size zs1 q2) := hs2.alloc _
  have HB2 : Hid (Below w.heap.size w (w2.alloc (.cells #[.int .i64 fo, .string fs, .slice fa fm fc] 24))) := below_of_only (b := w.heap.size) (only_alloc (only_trans (only_of_below HB1.out _) hg2) _) (Nat.le_refl _)
  have hszp : w.heap.size < w2.heap.size := by omega
  clear hf1 hfd hf3 hs2 hg2 HS1 HB1
  go_wp2_with fail
  generalize (w2.alloc (.cells #[.int .i64 fo, .string fs, .slice fa fm fc] 24)) = w3 at *
  generalize w2.heap.size = pf at *
  clear hsz1 hsz2
  refine (yes_any 4 (by omega) w.heap.size w.heap.size zs1 q2 w3 HS2.out).mono ?_
  rintro e w4 ⟨yv, yes, q4, rfl, hown, hylen, -, hs4, hg4⟩
  have HX4 := hidIt (HXF.out.kept hg4)
  have HB4 := hidIt (below_of_only (b := w.heap.size) (only_trans (only_of_below HB2.out _) hg4) (Nat.le_refl _))
  have HY4 := hidIt hown
  obtain ⟨ya, yc, rfl, hyl, hyc, -⟩ := hown.form
  obtain ⟨p0, p1, p2⟩ := cell_of3 HX4.out.blk
  have hpl := lt_of_block HX4.out.blk
  clear hown hs4 hg4 HXF HB2 HS2
  go_wp2_with fail
  refine (atoms_any f HNF.out _ w4 HX4.out.form.free).mono ?_
  rintro e w5 ⟨u, rfl, howna, hb5⟩
  obtain ⟨aa, ac, rfl, hal, hac, has⟩ := howna.form
  obtain ⟨al, hale⟩ : ∃ al, al = atomsT f := ⟨_, rfl⟩
  have halen : al.length ≤ 1000 := by rw [hale]; exact Nat.le_trans (atomsT_len f) hfn
  rw [← hale] at has hal ⊢
  have HALE := hidIt hale
  have HA5 := hidIt (has.mono (S' := fun _ => True) fun _ _ _ => trivial)
  have HX5 := hidIt (HX4.out.go hb5)
  have HB5 := hidIt (HB4.out.trans (Below.mono hb5 HB4.out.size))
  have HY5 := hidIt (HY4.out.go hb5)
  have HM5 := hidIt (HM.out.go HB5.out)
  unfold maxLen at hac
  clear howna hb5 has hale HX4 HB4 HY4 p0 p1 p2 hpl hfn HM
  have hmade := OwnS.made w5 w5.heap.size (Nat.le_refl _)
  have HYM := hidIt (HY5.out.alloc (.cells #[] 9))
  have HMADE := hidIt hmade
  clear hmade
  go_wp2_with (at_builtin; refine wpList_append_strs rfl _ _ rfl w5.heap.size _ [] rfl HMADE.out _ _ yes rfl HYM.out (by simp) (by omega) (by simp) ?_)
  intro v6 w6 ho6 hg6
  have HO6 := hidIt ho6
  have HB6 : Hid (Below w5.heap.size w5 w6) := below_over2 (Below.refl _ _) (Grows.alloc w5 _) hg6 (fun g e => (HMADE.out.block g e).1)
  clear ho6 hg6 HMADE HYM
  unfold maxLen at hyc
  go_wp2_with fail
  go_loopw [9, 10] (fun o i wr => ∃ (k : Nat) (l : List ByteArray), k ≤ more.length ∧ k ≤ 20 ∧ i = .int .i64 k ∧ l.length ≤ 4 + k ∧ Hid (AllP al yes l) ∧ Hid (OwnS wr w5.heap.size o l) ∧ Hid (Below w5.heap.size w5 wr)) (fun _ i _ => 20 - (intOf i).toNat)
  case atStart => exact ⟨0, yes, Nat.zero_le _, by omega, rfl, by omega, AllP.start al yes, HO6, HB6⟩
  case round =>
    clear HO6 HB6
    obtain ⟨k, l, hk, hk20, rfl, hl, hap, hown, hbel⟩ := hrel
    by_cases hlt : k < more.length ∧ k < 20
    · obtain ⟨h1, h2⟩ := hlt
      have h1' : ((k : Int) < (more.length : Int)) := by omega
      have h2' : ((k : Int) < 20) := by omega
      obtain ⟨mb, mo, rfl, m0, hmsz⟩ := (HM5.out.go hbel.out).at k h1
      have HAR := hidIt (HA5.out.go hbel.out)
      generalize more[k] = m at *
      go_wp2_with fail
      go_loop [11, 42] (fun o i => ∃ j : Nat, j ≤ al.length ∧ i = .int .i64 j ∧ o = .bool (inB (al.take j) m)) (fun _ i => al.length - (intOf i).toNat)
      case atStart => exact ⟨0, Nat.zero_le _, rfl, rfl⟩
      case round =>
        obtain ⟨j, hj, rfl, rfl⟩ := hrel
        by_cases hjl : j < al.length
        · obtain ⟨ab, ao, rfl, a0, hasz⟩ := HAR.out.at j hjl
          have hstep := inB_take al j hjl m
          generalize al[j] = s at *
          have HST := hidIt hstep
          clear hstep
          cases hb : inB (al.take j) m
          · rw [hb, Bool.false_or, inB_one] at HST
            cases hs : (s.toList == m.toList)
            · have hs2 : Hid (inB (al.take (j + 1)) m = false) := by show _ = _; rw [HST.out, ← Lib.toList_data, ← Lib.toList_data]; exact hs
              go_wp2_with fail
              go_round
              case rel => exact ⟨j + 1, by omega, by go_num, by rw [hs2.out]⟩
              case measure => simp [intOf]; omega
            · have hs2 : Hid (inB (al.take (j + 1)) m = true) := by show _ = _; rw [HST.out, ← Lib.toList_data, ← Lib.toList_data]; exact hs
              go_wp2_with fail
              go_round
              case rel => exact ⟨j + 1, by omega, by go_num, by rw [hs2.out]⟩
              case measure => simp [intOf]; omega
          · have hs2 : Hid (inB (al.take (j + 1)) m = true) := by show _ = _; rw [HST.out, hb, Bool.true_or]
            clear HST
            go_wp2_with fail
            go_round
            case rel => exact ⟨j + 1, by omega, by go_num, by rw [hs2.out]⟩
            case measure => simp [intOf]; omega
        · obtain rfl : j = al.length := by omega
          cases hb : inB (al.take al.length) m
          · have HNO : Hid (inB al m = false) := by show _ = _; rw [List.take_length] at hb; exact hb
            have hbw : w5.heap.size ≤ (wr.alloc (.cells #[.string m] 9)).heap.size := by have := hbel.out.size; simp; omega
            have HNW := hidIt (heap_alloc_new wr (.cells #[.string m] 9))
            have HO3 := hidIt (hown.out.alloc (.cells #[.string m] 9))
            have HBW := hidIt hbw
            have HSZ := hidIt hmsz
            have HOB := hidIt hown.out.block
            clear hbw
            go_wp2_with (at_builtin; refine wpList_append_str rfl _ _ rfl w5.heap.size _ l rfl HO3.out _ 1 rfl HNW.out HSZ.out (by omega) HBW.out ?_)
            intro v' w8 ho8 hg8
            have HO8 := hidIt ho8
            have HB8 : Hid (Below w5.heap.size w5 w8) := below_over2 hbel.out (Grows.alloc wr _) hg8 (fun g e => (HOB.out g e).1)
            have HAP8 := hidIt (hap.out.snoc HNO.out)
            clear ho8 hg8
            go_wp2_with fail
            go_roundw
            case rel => exact ⟨k + 1, l ++ [m], by omega, by omega, by go_num, by simp; omega, HAP8, HO8, HB8⟩
            case measure => simp [intOf]; omega
          · go_wp2_with fail
            go_roundw
            case rel => exact ⟨k + 1, l, by omega, by omega, by go_num, by omega, hap, hown, hbel⟩
            case measure => simp [intOf]; omega
    · have HFIN : Hid (evalB f l = evalB f yes) := eval_own fun s hs => hap.out s (by rw [HALE.out]; exact hs)
      have HX7 := hidIt (HX5.out.go hbel.out)
      have HY7 := hidIt (HY5.out.go hbel.out)
      have HA7 := hidIt (HA5.out.go hbel.out)
      have HO7 := hidIt hown.out
      have HB7 := hidIt (HB5.out.trans (Below.mono hbel.out HB5.out.size))
      obtain ⟨oa, oc, rfl, hol, hoc, -⟩ := hown.out.form
      unfold maxLen at hoc
      have hl30 : l.length ≤ 30 := by omega
      have HYS := hidIt HY7.out.strs
      have hcs : ((k : Int) < (more.length : Int) ∧ (20 : Int) ≤ (k : Int)) ∨ ((more.length : Int) ≤ (k : Int)) := by omega
      clear hlt hap hown hbel HX5 HY5 HA5 HM5 HB5
      generalize wr = w7 at *
      rcases hcs with ⟨g1, g2⟩ | g1
      all_goals
        go_wp2_with fail
        go_loopw [14, 67] (fun o i wq => ∃ (j : Nat) (m : List ByteArray), j ≤ yes.length ∧ i = .int .i64 j ∧ m.length ≤ j * 1000 ∧ Hid (∀ s, inB m s = (inB (yes.take j) s && inB al s)) ∧ Hid (OwnS wq w7.heap.size o m) ∧ Hid (Below w7.heap.size w7 wq)) (fun _ i _ => yes.length - (intOf i).toNat)
        case atStart => exact ⟨0, [], Nat.zero_le _, rfl, Nat.le_refl _, fun s => by simp [inB], OwnS.nil _ _, Below.refl _ _⟩
        case round =>
          obtain ⟨j, m, hj, rfl, hml2, hfew, hown, hbel⟩ := hrel
          by_cases hjl : j < yes.length
          · obtain ⟨yb, yo, hya, y0, hysz⟩ := (HYS.out.go hbel.out).at j hjl
            have HST := hidIt (take_snoc' yes j hjl)
            have HF0 := hidIt (FewP.start (yes[j]) hfew.out)
            have hjl' : (j : Int) < (yes.length : Int) := by omega
            generalize yes[j] = x at *
            subst hya
            go_wp2_with fail
            go_loopw [14, 73] (fun o i wq => ∃ (q : Nat) (n : List ByteArray), q ≤ al.length ∧ i = .int .i64 q ∧ n.length ≤ j * 1000 + q ∧ Hid (FewP (yes.take j) al x q n) ∧ Hid (OwnS wq w7.heap.size o n) ∧ Hid (Below w7.heap.size w7 wq)) (fun _ i _ => al.length - (intOf i).toNat)
            case atStart => exact ⟨0, m, Nat.zero_le _, rfl, by omega, HF0, hown, hbel⟩
            case round =>
              clear HF0 hfew hown hbel y0
              obtain ⟨q, n, hq, rfl, hnl, hfew, hown, hbel⟩ := hrel
              by_cases hql : q < al.length
              · obtain ⟨ab, ao, haa, a0, hasz⟩ := (HA7.out.go hbel.out).at q hql
                have hyes := hfew.out.yes hql
                have hno := hfew.out.no hql
                have hql' : (q : Int) < (al.length : Int) := by omega
                generalize al[q] = t at *
                subst haa
                cases hs : (x.toList == t.toList)
                · have HF1 := hidIt (hno (fun e => by rw [e] at hs; simp at hs))
                  clear hyes hno
                  go_wp2_with fail
                  go_roundw
                  case rel => exact ⟨q + 1, n, by omega, by go_num, by omega, HF1, hown, hbel⟩
                  case measure => simp [intOf]; omega
                · have HF1 := hidIt (hyes (by
                    have h1 := eq_of_beq hs
                    rw [Lib.toList_data, Lib.toList_data] at h1
                    exact bytes_inj h1))
                  clear hyes hno
                  have hnl2 : n.length ≤ 1000000 := by omega
                  have hbw : w7.heap.size ≤ (wr.alloc (.cells #[.string x] 9)).heap.size := by have := hbel.out.size; simp; omega
                  have HNW := hidIt (heap_alloc_new wr (.cells #[.string x] 9))
                  have HO3 := hidIt (hown.out.alloc (.cells #[.string x] 9))
                  have HBW := hidIt hbw
                  have HSZ := hidIt hysz
                  have HOB := hidIt hown.out.block
                  clear hbw
                  go_wp2_with (at_builtin; refine wpList_append_str rfl _ _ rfl w7.heap.size _ n rfl HO3.out _ 1 rfl HNW.out HSZ.out hnl2 HBW.out ?_)
                  intro v' w8 ho8 hg8
                  have HO8 := hidIt ho8
                  have HB8 : Hid (Below w7.heap.size w7 w8) := below_over2 hbel.out (Grows.alloc wr _) hg8 (fun g e => (HOB.out g e).1)
                  clear ho8 hg8
                  go_wp2_with fail
                  go_roundw
                  case rel => exact ⟨q + 1, n ++ [x], by omega, by go_num, by simp; omega, HF1, HO8, HB8⟩
                  case measure => simp [intOf]; omega
              · obtain rfl : q = al.length := by omega
                have HF2 : Hid (∀ s, inB n s = (inB (yes.take (j + 1)) s && inB al s)) := by
                  show ∀ s, _
                  rw [HST.out]
                  exact hfew.out.stop
                go_wp2_with fail
                go_roundw
                case rel => exact ⟨j + 1, n, by omega, by go_num, by omega, HF2, hown, hbel⟩
                case measure => simp [intOf]; omega
          · obtain rfl : j = yes.length := by omega
            have HF3 : Hid (evalB f m = evalB f yes) := few_eval (fun s => by rw [hfew.out s, List.take_length, HALE.out])
            obtain ⟨na, nc, rfl, hnl, hnc, hns⟩ := hown.out.form
            unfold maxLen at hnc
            have HX8 := hidIt (HX7.out.go hbel.out)
            have HO8 := hidIt ((HO7.out.strs).go hbel.out)
            have HY8 := hidIt (HYS.out.go hbel.out)
            have HN8 := hidIt hns
            have HBZ := hidIt (HB7.out.trans (Below.mono hbel.out HB7.out.size))
            have HSZ := hidIt (HSG.out.go HBZ.out)
            obtain ⟨cv, hcv⟩ : ∃ cv, evalB f yes = cv := ⟨_, rfl⟩
            have HE1 : Hid (evalB f l = cv) := HFIN.out.trans hcv
            have HE2 := hidIt hcv
            have HE3 : Hid (evalB f m = cv) := HF3.out.trans hcv
            have hn1 : l.length ≤ 1000000 := by omega
            have hn2 : yes.length ≤ 1000000 := by omega
            have hn3 : m.length ≤ 1000000 := by omega
            obtain ⟨c0, c1, c2⟩ := cell_of3 HX8.out.blk
            have K0 := fun y => Ext.cell c0 y
            have K1 := fun y => Ext.cell c1 y
            have K2 := fun y => Ext.cell c2 y
            have HFA := hidIt HX8.out.form.free
            have hcc : (cv == cv) = true := by simp
            clear c0 c1 c2 hcv hns hfew hown hbel
            go_wp2_with fail
            haveI := Ext.nonempty wr
            refine wp_region_in (Ext wr) (by kernel_rfl) (by kernel_rfl) (Ext.start wr) ?_
            repeat (go_big_quiet_step (first
              | (with_reducible (refine Ext.call (eval_at HFA.out hn1 HO8.out HE1.out _)))
              | (with_reducible (refine Ext.call (eval_at HFA.out hn2 HY8.out HE2.out _)))
              | (with_reducible (refine Ext.call (eval_at HFA.out hn3 HN8.out HE3.out _)))
              | (with_reducible (refine Ext.call (awake2_any _ (HSZ.out.go (In.h _)))))))
            refine wpQuiet_nil ?_
            rintro w9 ⟨⟨_, h9⟩, rfl⟩
            have HB9 : Hid (Below w.heap.size w w9) := HBZ.out.trans (Below.mono h9 HBZ.out.size)
            clear h9 K0 K1 K2
            go_wp2_with fail
            go_ret
            exact ⟨rfl, HB9.out⟩
end Go.Proofs.YtmkcohcpdfabbaaDoor
