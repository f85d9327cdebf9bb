/- The parser's row. -/
import Derived.Test.YtpiiadmjddikfaaDoorPair
import Derived.Test.YtpiiadmjddikfaaDoorOwnF
namespace Go.Proofs.YtpiiadmjddikfaaDoor
set_option linter.unusedVariables false
set_option linter.unusedSimpArgs false
open Go.RowKit

theorem rowP_none {op : Int} {sign : Rest} {SP : Rest → Option Tree × Rest} {r r1 : Rest} (h : SP r = (none, r1)) : rowP op sign SP r = (none, r1) := by unfold rowP; rw [h]
theorem rowP_left {op : Int} {sign : Rest} {SP : Rest → Option Tree × Rest} {r r1 : Rest} {f : Tree} (h : SP r = (some f, r1)) (ht : ¬ tok r1 = sign) : rowP op sign SP r = (some f, r1) := by
  unfold rowP; rw [h]; simp only; rw [if_neg ht]
/-- The formula of the parts. -/
def manyP (op : Int) : Option (List Tree) × Rest → Option Tree × Rest
  | (some l, r) => (some (.node op ⟨#[]⟩ l), r)
  | (none, r) => (none, r)
theorem rowP_many {op : Int} {sign : Rest} {SP : Rest → Option Tree × Rest} {r r1 : Rest} {f : Tree} (h : SP r = (some f, r1)) (ht : tok r1 = sign) : rowP op sign SP r = manyP op (rowLoop sign SP (r1.length + 1) [f] r1) := by
  unfold rowP; rw [h]; simp only; rw [if_pos ht]; rfl
theorem rowLoop_stop {sign : Rest} {SP : Rest → Option Tree × Rest} {n : Nat} {l : List Tree} {r : Rest} (h : ¬ tok r = sign) : rowLoop sign SP (n + 1) l r = (some l, r) := by
  unfold rowLoop; rw [if_neg h]
theorem rowLoop_fail {sign : Rest} {SP : Rest → Option Tree × Rest} {n : Nat} {l : List Tree} {r r1 : Rest} (h : tok r = sign) (hp : SP (nxt r) = (none, r1)) : rowLoop sign SP (n + 1) l r = (none, r1) := by
  unfold rowLoop; rw [if_pos h, hp]
theorem rowLoop_on {sign : Rest} {SP : Rest → Option Tree × Rest} {n : Nat} {l : List Tree} {r r1 : Rest} {f : Tree} (h : tok r = sign) (hp : SP (nxt r) = (some f, r1)) : rowLoop sign SP (n + 1) l r = rowLoop sign SP n (l ++ [f]) r1 := by
  conv => lhs; unfold rowLoop
  rw [if_pos h, hp]

/-- The loop's state: the parts so far. -/
structure RowSt (w : World) (b : Nat) (s : ByteArray) (sign : Rest) (SP : Rest → Option Tree × Rest) (goal : Option (List Tree) × Rest) (r0 : Rest) (ok : Bool) (v : Value) (wr : World) (g : Nat) : Prop where
  form : ∃ (a : Option Addr) (n c : Nat), v = .slice a n c
  res : wr.heap[w.heap.size]? = some (.cells #[.int .i64 0, .string ⟨#[]⟩, .slice none 0 0] 24 (0, 0))
  gr : w.grownBy wr (some b)
  yes : ok = true → ∃ (l : List Tree) (r : Rest), PAt wr b s r ∧ OwnF wr (w.heap.size + 1) v l ∧ rowLoop sign SP g l r = goal ∧ r.length < g ∧ r.length ≤ r0.length ∧ l.length + g ≤ 5000
  no : ok = false → ∃ r : Rest, PAt wr b s r ∧ goal = (none, r)

set_option maxRecDepth 100000 in
set_option maxHeartbeats 4000000 in
theorem row_walk (op : Int) (hop : 0 ≤ op) (hop' : op ≤ 9) (sign : Rest) (S : ByteArray) (hS : S.toList = sign) (hs0 : 0 < sign.length) (fp : Nat) (ep : Enters fp) (SP : Rest → Option Tree × Rest) (r : Rest)
    (hP0 : POk fp SP r) (hP : ∀ r', r'.length < r.length → POk fp SP r') (hlen : Shrinks SP) (w : World) (b : Nat) (s : ByteArray) (h : PAt w b s r) :
    Calls Tryd.prog 87 #[.pointer (some ⟨b, 0, none⟩), .int .i64 op, .string S, .func (.func fp) #[.pointer (some ⟨b, 0, none⟩)] #[]] w (PPost w b s (rowP op sign SP r)) := by
  have hlt := h.lt
  have H := hidIt h
  have HP0 := hidIt hP0
  have HP := hidIt hP
  have hcp : ∀ (args : Array Value) (w : World), (callFunc fp args).run Tryd.prog w = .ok (.enter fp args) w := ep
  have hI := hidIt (i64_small hop hop')
  have hlen' := hidIt hlen
  have HSS := hidIt hS
  clear hP0 hP h ep hlen hS
  go_enter Tryd.func87, Tryd.ntmps87
  go_wp2_with fail
  refine (HP0.out _ b s (H.out.alloc _)).mono ?_
  rintro e w1 ⟨o1, n1, a1, k1, c1, rfl, hf, hp1, hg1⟩
  cases hres : SP r with
  | mk o r1 =>
    rw [hres] at hf hp1
    simp only at hf hp1
    have HG1 : Hid (w.grownBy w1 (some b)) := only_trans (only_alloc (only_refl _ _) _) hg1
    have HK1 := hidIt (own_kept (heap_alloc_new w _) hg1 (by omega))
    have hlt1 := hp1.lt
    have hR1 := lt_of_block HK1.out
    obtain ⟨r0, r1', r2⟩ := cell_of3 HK1.out
    obtain ⟨f0, f1, f2⟩ := cells_free HK1.out
    obtain ⟨-, t2⟩ := hp1.cells
    have HP1 := hidIt hp1
    have HF1 : Hid (∀ f, o = some f → FormIn w1 (fun i => w.heap.size + 1 ≤ i) (.agg #[.int .i64 o1, .string n1, .slice a1 k1 c1]) f) := fun f hf' => (hf f hf').mono (fun i _ hi => by simpa using hi)
    have hlen2 : Hid (r1.length ≤ r.length) := by have := hlen'.out r; rw [hres] at this; exact this
    have HRES := hidIt hres
    clear hf hp1 hg1 hres
    obtain ⟨T, hT⟩ : ∃ T, T = (⟨(tok r1).toArray⟩ : ByteArray) := ⟨_, rfl⟩
    have hTl : Hid (T.toList = tok r1) := by show _ = _; rw [hT, Lib.toList_data]
    rw [← hT] at t2
    clear hT
    cases o with
    | none =>
      have HE : Hid (rowP op sign SP r = (none, r1)) := rowP_none HRES.out
      go_wp2_with fail
      refine bodyPost_ret (v := .tuple #[.agg #[.int .i64 o1, .string n1, .slice a1 k1 c1], .bool false]) (by simp [results, Tryd.results87, go_sem, r0, r1', r2, hR1]) rfl ?_
      have hgF := only_alloc (set_three w1 w.heap.size (.int .i64 o1) (.string n1) (.slice a1 k1 c1)) (.cells #[.int .i64 o1, .string n1, .slice a1 k1 c1] 24)
      refine ⟨o1, n1, a1, k1, c1, by rw [HE.out]; rfl, fun f hf => ?_, ?_, only_new HG1.out hgF (Nat.le_refl _)⟩
      · rw [HE.out] at hf; cases hf
      · rw [HE.out]
        exact HP1.out.kept hgF (fun e => by injection e with e; omega) (fun e => by injection e with e; omega)
    | some f =>
      have HF := hidIt (HF1.out f rfl)
      by_cases ht : tok r1 = sign
      · have hq : (T.toList == S.toList) = true := by rw [hTl.out, HSS.out, ht]; exact beq_self_eq_true _
        have HE : Hid (rowP op sign SP r = manyP op (rowLoop sign SP (r1.length + 1) [f] r1)) := rowP_many HRES.out ht
        clear ht
        go_wp2_with fail
        have hst : Hid (RowSt w b s sign SP (rowLoop sign SP (r1.length + 1) [f] r1) r true (.slice (some ⟨w1.heap.size + 1, 0, none⟩) 1 1) ((w1.alloc (.cells #[.int .i64 o1, .string n1, .slice a1 k1 c1] 24)).alloc (.cells #[.int .i64 o1, .string n1, .slice a1 k1 c1] 24)) (r1.length + 1)) := by
          have hb2 : Below w1.heap.size w1 ((w1.alloc (.cells #[.int .i64 o1, .string n1, .slice a1 k1 c1] 24)).alloc (.cells #[.int .i64 o1, .string n1, .slice a1 k1 c1] 24)) := ((Below.refl _ _).alloc (Nat.le_refl _) _).alloc (by simp) _
          refine ⟨⟨_, 1, 1, rfl⟩, blk_kept HK1.out hb2, only_trans HG1.out (only_of_below hb2 _), fun _ => ⟨[f], r1, HP1.out.go hb2, ?_, rfl, by omega, hlen2.out, by have := HP1.out.len; simp; omega⟩, fun e => by cases e⟩
          exact OwnF.one (heap_alloc_at (by simp)) (by omega) ((HF.out.mono (S' := fun k => w.heap.size + 1 ≤ k ∧ k ≠ w1.heap.size + 1) (fun i hi hS => ⟨hS, by omega⟩)).go hb2)
        generalize hgoal : rowLoop sign SP (r1.length + 1) [f] r1 = goal at HE hst
        clear HK1 HP1 HF HF1 HG1 hlt1 hR1 r0 r1' r2 f0 f1 f2 t2 hq hgoal
        generalize ((w1.alloc (.cells #[.int .i64 o1, .string n1, .slice a1 k1 c1] 24)).alloc (.cells #[.int .i64 o1, .string n1, .slice a1 k1 c1] 24)) = W at *
        go_loopg [11, 12] (r1.length + 1) (fun g s11 s12 wr => ∃ okb : Bool, s11 = .bool okb ∧ Hid (RowSt w b s sign SP goal r okb s12 wr g))
        case atStart => exact ⟨true, rfl, hst⟩
        case round =>
          clear hst
          obtain ⟨okb, rfl, hst⟩ := hrel
          obtain ⟨av, nv, cv, rfl⟩ := hst.out.form
          have HK := hidIt hst.out.res
          have hR := lt_of_block HK.out
          obtain ⟨r0, r1', r2⟩ := cell_of3 HK.out
          obtain ⟨f0, f1, f2⟩ := cells_free HK.out
          cases okb with
          | false =>
            obtain ⟨r', hp, hgo⟩ := hst.out.no rfl
            have HP' := hidIt hp
            have HGO := hidIt hgo
            clear hp hgo
            go_wp2_with fail
            refine bodyPost_ret (v := .tuple #[.agg #[.int .i64 op, .string ⟨#[]⟩, .slice av nv cv], .bool false]) (by simp [results, Tryd.results87, go_sem, r0, r1', r2, hR]) rfl ?_
            have hgF := set_three wr w.heap.size (.int .i64 op) (.string ⟨#[]⟩) (.slice av nv cv)
            have HE1 : rowP op sign SP r = (none, r') := by rw [HE.out, HGO.out]; rfl
            refine ⟨op, ⟨#[]⟩, av, nv, cv, by rw [HE1]; rfl, fun f' hf => ?_, ?_, only_new hst.out.gr hgF (Nat.le_refl _)⟩
            · rw [HE1] at hf; cases hf
            · rw [HE1]
              exact HP'.out.kept hgF (fun e => by injection e with e; omega) (fun e => by injection e with e; omega)
          | true =>
            obtain ⟨l, r', hp, hown, hloop, hg1, hg2, hg3⟩ := hst.out.yes rfl
            have HP' := hidIt hp
            have HOWN := hidIt hown
            have HLOOP := hidIt hloop
            have hltr := hp.lt
            obtain ⟨-, t2⟩ := hp.cells
            obtain ⟨T', hT'⟩ : ∃ T', T' = (⟨(tok r').toArray⟩ : ByteArray) := ⟨_, rfl⟩
            have hTl' : Hid (T'.toList = tok r') := by show _ = _; rw [hT', Lib.toList_data]
            rw [← hT'] at t2
            clear hp hown hloop hT'
            obtain ⟨g', hg'⟩ : ∃ g', gk = g' + 1 := ⟨gk - 1, by omega⟩
            by_cases ht' : tok r' = sign
            · have hq' : (T'.toList == S.toList) = true := by rw [hTl'.out, HSS.out, ht']; exact beq_self_eq_true _
              have HT' := hidIt ht'
              clear ht'
              go_wp2_with fail
              refine (next_at HP'.out).mono ?_
              rintro e w3 ⟨rfl, hp3, hgn⟩
              have HP3 := hidIt hp3
              have HOWN3 := hidIt (HOWN.out.kept hgn (fun g e => by injection e with e; omega))
              have HG3 := hidIt (only_trans hst.out.gr hgn)
              have HK3 := hidIt (own_kept HK.out hgn (by omega))
              have hnl : Hid ((nxt r').length < r.length) := Nat.lt_of_lt_of_le (nxt_lt hs0 HT'.out) hg2
              have hnl2 : Hid ((nxt r').length < r'.length) := nxt_lt hs0 HT'.out
              have hlt3 := hp3.lt
              have hR3 := lt_of_block HK3.out
              clear hp3 hgn r0 r1' r2 f0 f1 f2 t2 hq'
              go_wp2_with fail
              refine (HP.out _ hnl.out _ b s (HP3.out.alloc _)).mono ?_
              rintro e w4 ⟨o4, n4, a4, k4, c4, rfl, hf4, hp4, hg4⟩
              cases hres4 : SP (nxt r') with
              | mk o4' r4 =>
                rw [hres4] at hf4 hp4
                simp only at hf4 hp4
                have hlen4 : Hid (r4.length ≤ (nxt r').length) := by have := hlen'.out (nxt r'); rw [hres4] at this; exact this
                have HRES4 := hidIt hres4
                have HF4 := hidIt hf4
                have HP4 := hidIt hp4
                have HG4 : Hid (w3.grownBy w4 (some b)) := only_trans (only_alloc (only_refl _ _) _) hg4
                have HL4 := hidIt (own_kept (heap_alloc_new w3 _) hg4 (by omega))
                have hL4 := lt_of_block HL4.out
                obtain ⟨l0, l1, l2⟩ := cell_of3 HL4.out
                obtain ⟨g0, g1, g2⟩ := cells_free HL4.out
                clear hf4 hp4 hg4 hres4
                cases o4' with
                | none =>
                  have hs3 := set_three w4 w3.heap.size (.int .i64 o4) (.string n4) (.slice a4 k4 c4)
                  have HW : Hid (w4.grownBy ((((w4.setCell ⟨w3.heap.size, 0, none⟩ (.int .i64 o4)).setCell ⟨w3.heap.size, 1, none⟩ (.string n4)).setCell ⟨w3.heap.size, 2, none⟩ (.slice a4 k4 c4)).alloc (.cells #[.int .i64 o4, .string n4, .slice a4 k4 c4] 24)) (some w3.heap.size)) := only_alloc hs3 _
                  have HW3 : Hid (w3.grownBy ((((w4.setCell ⟨w3.heap.size, 0, none⟩ (.int .i64 o4)).setCell ⟨w3.heap.size, 1, none⟩ (.string n4)).setCell ⟨w3.heap.size, 2, none⟩ (.slice a4 k4 c4)).alloc (.cells #[.int .i64 o4, .string n4, .slice a4 k4 c4] 24)) (some b)) := only_new HG4.out HW.out (Nat.le_refl _)
                  have HOWNW := hidIt (HOWN3.out.kept HW3.out (fun g e => by injection e with e; omega))
                  have HPW := hidIt (HP4.out.kept HW.out (fun e => by injection e with e; omega) (fun e => by injection e with e; omega))
                  have HKW := hidIt (own_kept (own_kept HK3.out HG4.out (by omega)) HW.out (by omega))
                  have HGW := hidIt (only_trans HG3.out HW3.out)
                  have HNW : Hid (((((w4.setCell ⟨w3.heap.size, 0, none⟩ (.int .i64 o4)).setCell ⟨w3.heap.size, 1, none⟩ (.string n4)).setCell ⟨w3.heap.size, 2, none⟩ (.slice a4 k4 c4)).alloc (.cells #[.int .i64 o4, .string n4, .slice a4 k4 c4] 24)).heap[w4.heap.size]? = some (.cells #[.int .i64 o4, .string n4, .slice a4 k4 c4] 24 (0, 0))) := heap_alloc_at (by simp [World.setCell])
                  have hbw : Hid (w.heap.size + 1 ≤ ((((w4.setCell ⟨w3.heap.size, 0, none⟩ (.int .i64 o4)).setCell ⟨w3.heap.size, 1, none⟩ (.string n4)).setCell ⟨w3.heap.size, 2, none⟩ (.slice a4 k4 c4)).alloc (.cells #[.int .i64 o4, .string n4, .slice a4 k4 c4] 24)).heap.size) := by have := HW3.out.size; show _ ≤ _; omega
                  clear hs3
                  go_wp2_with (at_builtin; refine wpList_append_junk rfl _ _ rfl (w.heap.size + 1) _ l rfl HOWNW.out _ 1 rfl HNW.out (by omega) hbw.out ?_)
                  intro a5 n5 c5 w5 hg5
                  have hob := HOWNW.out.block
                  have HG5 : Hid (w.grownBy w5 (some b)) := by
                    cases hv : (Value.slice av nv cv).ownBlock with
                    | none => rw [hv] at hg5; exact only_trans HGW.out ⟨hg5.os, hg5.tape, hg5.output, hg5.size, fun i hi _ => hg5.block i hi (by simp)⟩
                    | some g => rw [hv] at hg5; exact only_new HGW.out hg5 (by have := (hob g hv).1; omega)
                  have HP5 := hidIt (HPW.out.kept hg5 (fun e => by have := (hob b e).1; omega) (fun e => by have := (hob 0 e).1; omega))
                  have HK5 : Hid (w5.heap[w.heap.size]? = some (.cells #[.int .i64 0, .string ⟨#[]⟩, .slice none 0 0] 24 (0, 0))) := by
                    show _ = _
                    rw [hg5.block _ (lt_of_block HKW.out) (fun e => by have := (hob _ e.symm).1; omega)]
                    exact HKW.out
                  have HGO : Hid (goal = (none, r4)) := by
                    have := HLOOP.out
                    rw [hg', rowLoop_fail HT'.out HRES4.out] at this
                    exact this.symm
                  clear hg5 hob l0 l1 l2 g0 g1 g2
                  go_wp2_with fail
                  go_roundg 0
                  case measure => omega
                  case rel => exact ⟨false, rfl, ⟨⟨a5, n5, c5, rfl⟩, HK5.out, HG5.out, (fun e => by cases e), fun _ => ⟨r4, HP5.out, HGO.out⟩⟩⟩
                | some f4 =>
                  have hs3 := set_three w4 w3.heap.size (.int .i64 o4) (.string n4) (.slice a4 k4 c4)
                  have HW : Hid (w4.grownBy ((((w4.setCell ⟨w3.heap.size, 0, none⟩ (.int .i64 o4)).setCell ⟨w3.heap.size, 1, none⟩ (.string n4)).setCell ⟨w3.heap.size, 2, none⟩ (.slice a4 k4 c4)).alloc (.cells #[.int .i64 o4, .string n4, .slice a4 k4 c4] 24)) (some w3.heap.size)) := only_alloc hs3 _
                  have HW3 : Hid (w3.grownBy ((((w4.setCell ⟨w3.heap.size, 0, none⟩ (.int .i64 o4)).setCell ⟨w3.heap.size, 1, none⟩ (.string n4)).setCell ⟨w3.heap.size, 2, none⟩ (.slice a4 k4 c4)).alloc (.cells #[.int .i64 o4, .string n4, .slice a4 k4 c4] 24)) (some b)) := only_new HG4.out HW.out (Nat.le_refl _)
                  have HOWNW := hidIt (HOWN3.out.kept HW3.out (fun g e => by injection e with e; omega))
                  have HPW := hidIt (HP4.out.kept HW.out (fun e => by injection e with e; omega) (fun e => by injection e with e; omega))
                  have HKW := hidIt (own_kept (own_kept HK3.out HG4.out (by omega)) HW.out (by omega))
                  have HGW := hidIt (only_trans HG3.out HW3.out)
                  have HNW : Hid (((((w4.setCell ⟨w3.heap.size, 0, none⟩ (.int .i64 o4)).setCell ⟨w3.heap.size, 1, none⟩ (.string n4)).setCell ⟨w3.heap.size, 2, none⟩ (.slice a4 k4 c4)).alloc (.cells #[.int .i64 o4, .string n4, .slice a4 k4 c4] 24)).heap[w4.heap.size]? = some (.cells #[.int .i64 o4, .string n4, .slice a4 k4 c4] 24 (0, 0))) := heap_alloc_at (by simp [World.setCell])
                  have hbw : Hid (w.heap.size + 1 ≤ ((((w4.setCell ⟨w3.heap.size, 0, none⟩ (.int .i64 o4)).setCell ⟨w3.heap.size, 1, none⟩ (.string n4)).setCell ⟨w3.heap.size, 2, none⟩ (.slice a4 k4 c4)).alloc (.cells #[.int .i64 o4, .string n4, .slice a4 k4 c4] 24)).heap.size) := by have := HW3.out.size; show _ ≤ _; omega
                  have HFW : Hid (FormIn ((((w4.setCell ⟨w3.heap.size, 0, none⟩ (.int .i64 o4)).setCell ⟨w3.heap.size, 1, none⟩ (.string n4)).setCell ⟨w3.heap.size, 2, none⟩ (.slice a4 k4 c4)).alloc (.cells #[.int .i64 o4, .string n4, .slice a4 k4 c4] 24)) (fun k => w.heap.size + 1 ≤ k ∧ (Value.slice av nv cv).ownBlock ≠ some k) (.agg #[.int .i64 o4, .string n4, .slice a4 k4 c4]) f4) :=
                    (((HF4.out f4 rfl).mono (S' := fun i => w3.heap.size + 1 ≤ i) (fun i _ hi => by simpa using hi)).over (w1 := w3) HW.out (by omega)).mono (fun i _ hi => ⟨by omega, fun e => by have := (HOWN3.out.block i e).2; omega⟩)
                  clear hs3
                  go_wp2_with (at_builtin; refine wpList_append_form rfl _ _ rfl (w.heap.size + 1) _ l rfl HOWNW.out _ 1 rfl HNW.out f4 HFW.out (by omega) hbw.out ?_)
                  intro v5 w5 hown5 hg5 hbl5
                  have hob := HOWNW.out.block
                  have HG5 : Hid (w.grownBy w5 (some b)) := by
                    cases hv : (Value.slice av nv cv).ownBlock with
                    | none => rw [hv] at hg5; exact only_trans HGW.out ⟨hg5.os, hg5.tape, hg5.output, hg5.size, fun i hi _ => hg5.block i hi (by simp)⟩
                    | some g => rw [hv] at hg5; exact only_new HGW.out hg5 (by have := (hob g hv).1; omega)
                  have HP5 := hidIt (HPW.out.kept hg5 (fun e => by have := (hob b e).1; omega) (fun e => by have := (hob 0 e).1; omega))
                  have HK5 : Hid (w5.heap[w.heap.size]? = some (.cells #[.int .i64 0, .string ⟨#[]⟩, .slice none 0 0] 24 (0, 0))) := by
                    show _ = _
                    rw [hg5.block _ (lt_of_block HKW.out) (fun e => by have := (hob _ e.symm).1; omega)]
                    exact HKW.out
                  have HLO : Hid (rowLoop sign SP g' (l ++ [f4]) r4 = goal) := by
                    have := HLOOP.out
                    rw [hg', rowLoop_on HT'.out HRES4.out] at this
                    exact this
                  have HO5 := hidIt hown5
                  have HV5 : Hid (∃ a n c, v5 = Value.slice a n c) := by
                    obtain ⟨a, c, h, -⟩ := hown5.form
                    exact ⟨a, _, c, h⟩
                  have hlen5 := hlen4.out
                  have hnl3 := hnl2.out
                  clear hg5 hob l0 l1 l2 g0 g1 g2 hown5 hbl5
                  go_wp2_with fail
                  go_roundg g'
                  case measure => omega
                  case rel => exact ⟨true, rfl, ⟨HV5.out, HK5.out, HG5.out, fun _ => ⟨l ++ [f4], r4, HP5.out, HO5.out, HLO.out, by omega, by omega, by rw [List.length_append]; simp; omega⟩, fun e => by cases e⟩⟩
            · have hq' : (T'.toList == S.toList) = false := by rw [hTl'.out, HSS.out]; exact beq_eq_false_iff_ne.2 ht'
              have HGO : Hid (goal = (some l, r')) := by
                have := HLOOP.out
                rw [hg', rowLoop_stop ht'] at this
                exact this.symm
              clear ht' hg'
              obtain ⟨a', c', hv, hlc, hcm, hforms⟩ := HOWN.out.form
              injection hv with e1 e2 e3
              subst e1 e2 e3
              have HFORMS := hidIt hforms
              clear hforms
              go_wp2_with fail
              refine bodyPost_ret (v := .tuple #[.agg #[.int .i64 op, .string ⟨#[]⟩, .slice av l.length cv], .bool true]) (by simp [results, Tryd.results87, go_sem, r0, r1', r2, hR]) rfl ?_
              have hgF := set_three wr w.heap.size (.int .i64 op) (.string ⟨#[]⟩) (.slice av l.length cv)
              have HE1 : rowP op sign SP r = (some (.node op ⟨#[]⟩ l), r') := by rw [HE.out, HGO.out]; rfl
              refine ⟨op, ⟨#[]⟩, av, l.length, cv, by rw [HE1]; rfl, fun f' hf => ?_, ?_, only_new hst.out.gr hgF (Nat.le_refl _)⟩
              · rw [HE1] at hf
                obtain rfl := Option.some.inj hf
                refine (FormIn.mk (HFORMS.out.kept fun i hi hl => hgF.block i hl (fun e => by injection e with e; omega)) rfl hI.out nil_le hlc hcm).mono fun i _ hi => by omega
              · rw [HE1]
                exact HP'.out.kept hgF (fun e => by injection e with e; omega) (fun e => by injection e with e; omega)
      · have hq : (T.toList == S.toList) = false := by rw [hTl.out, HSS.out]; exact beq_eq_false_iff_ne.2 ht
        have HE : Hid (rowP op sign SP r = (some f, r1)) := rowP_left HRES.out ht
        clear ht
        go_wp2_with fail
        refine bodyPost_ret (v := .tuple #[.agg #[.int .i64 o1, .string n1, .slice a1 k1 c1], .bool true]) (by simp [results, Tryd.results87, go_sem, r0, r1', r2, hR1]) rfl ?_
        have hgF := only_alloc (set_three w1 w.heap.size (.int .i64 o1) (.string n1) (.slice a1 k1 c1)) (.cells #[.int .i64 o1, .string n1, .slice a1 k1 c1] 24)
        refine ⟨o1, n1, a1, k1, c1, by rw [HE.out]; rfl, fun f' hf => ?_, ?_, only_new HG1.out hgF (Nat.le_refl _)⟩
        · rw [HE.out] at hf
          obtain rfl : f = f' := Option.some.inj hf
          exact (HF.out.over (w1 := w) hgF (by omega)).mono (fun i _ hi => by omega)
        · rw [HE.out]
          exact HP1.out.kept hgF (fun e => by injection e with e; omega) (fun e => by injection e with e; omega)
end Go.Proofs.YtpiiadmjddikfaaDoor
