/- The law GraphInduces: for every list of numbers it answers true. A graph beside a reader; the characteristic function and its least fixed point. The law AdmissibleMonotone: for every list of numbers it answers true. -/
import Derived.Test.YtihmdnbeonefcaaDoorG1I
import Derived.Test.YtihmdnbeonefcaaDoorNew
import Derived.Test.YtihmdnbeonefcaaDoorZ2N1M
import Derived.Test.YtihmdnbeonefcaaDoorZ2M1I

namespace Go.Proofs.YtihmdnbeonefcaaDoor
set_option linter.unusedVariables false
set_option linter.unusedSimpArgs false
open Go Go.RowKit Go.Sort

theorem OwnPairs.read {w w' : World} {B b : Nat} {v : Value} {xs : List (Int × Int)} (h : OwnPairs w B v xs) (hg : w.grownBy w' (some b)) (hb : b < B) : OwnPairs w' B v xs := by
  rcases h with h | ⟨g, cap, h1, h2, h3, h4, h5, h6⟩
  · exact .inl h
  · have hk : w'.heap[g]? = w.heap[g]? := hg.block g h5 (fun e => by injection e with e; omega)
    exact .inr ⟨g, cap, h1, h2, h3, h4, Nat.lt_of_lt_of_le h5 hg.size, holds_block h6 hk⟩
theorem OwnI.read {w w' : World} {B b : Nat} {v : Value} {zs : List Int} (h : OwnI w B v zs) (hg : w.grownBy w' (some b)) (hb : b < B) : OwnI w' B v zs :=
  owns_kept h fun g e => hg.block g (owns_blk h g e).2 (fun e2 => by injection e2 with e2; have := (owns_blk h g e).1; omega)
theorem blk_read {w w' : World} {b g : Nat} {o : Obj} (h : w.heap[g]? = some o) (hg : w.grownBy w' (some b)) (hne : g ≠ b) : w'.heap[g]? = some o :=
  (hg.block g (lt_of_block h) (fun e => hne (by first | exact Option.some.inj e | exact (Option.some.inj e).symm))).trans h
theorem below_read {w a a' : World} {b : Nat} (h : Below b w a) (hg : a.grownBy a' (some b)) (hna : b ≤ a.heap.size) : Below b w a' := below_app5 h hg (fun g e => by injection e with e; omega) hna
end Go.Proofs.YtihmdnbeonefcaaDoor

namespace Go.Proofs.YtihmdnbeonefcaaDoor
set_option linter.unusedVariables false
set_option linter.unusedSimpArgs false
open Go Go.RowKit Go.Sort

theorem isIq13_of {w : World} {v : Value} {xs : List Int} (h : IL w v xs) : isIq13 xs.length xs v w := by
  obtain ⟨a, c, rfl, -⟩ := h.form
  exact ⟨a, c, rfl, h⟩
/-- The law's graph in its box, a reader of numbers, the library's table. -/
structure LR (w0 : World) (G N : Nat) (a : Option Addr) (c : Nat) (ps : List (Int × Int)) (zs : List Int) (w : World) : Prop where
  x : w.heap[G]? = some (.cells #[.int .i64 (N : Int), .slice a ps.length c] 27 (0, 0))
  o : OwnPairs w (w0.heap.size + 1) (.slice a ps.length c) ps
  s : ∃ k, SrcAt w w0.heap.size w0.heap.size zs k
  t : Tab w0
  b : Below w0.heap.size w0 w
  g : w0.heap.size < G
section
variable {w0 : World} {G N : Nat} {a : Option Addr} {c : Nat} {ps : List (Int × Int)} {zs : List Int} {w w' : World}
theorem LR.l (h : LR w0 G N a c ps zs w) : G < w.heap.size := lt_of_block h.x
theorem LR.c0 (h : LR w0 G N a c ps zs w) : w.cell? ⟨G, 0, none⟩ = some (.int .i64 (N : Int)) := cell_two0 h.x
theorem LR.c1 (h : LR w0 G N a c ps zs w) : w.cell? ⟨G, 1, none⟩ = some (.slice a ps.length c) := cell_two1 h.x
theorem LR.sz (h : LR w0 G N a c ps zs w) : w0.heap.size < w.heap.size := Nat.lt_trans h.g h.l
theorem LR.go (h : LR w0 G N a c ps zs w) (hb : Below w.heap.size w w') : LR w0 G N a c ps zs w' := by
  obtain ⟨k, hk⟩ := h.s
  exact ⟨blk_kept2 h.x hb, h.o.below hb, ⟨k, hk.grow (only_of_below hb none)⟩, h.t, h.b.trans (Below.mono hb h.b.size), h.g⟩
theorem LR.read (h : LR w0 G N a c ps zs w) {k : Nat} (hs : SrcAt w' w0.heap.size w0.heap.size zs k) (hg : w.grownBy w' (some w0.heap.size)) : LR w0 G N a c ps zs w' :=
  ⟨blk_read h.x hg (by have := h.g; omega), h.o.read hg (by omega), ⟨k, hs⟩, h.t, below_read h.b hg (Nat.le_of_lt h.sz), h.g⟩
/-- The same where blocks beyond the graph's may have turned, too. -/
theorem LR.lw (h : LR w0 G N a c ps zs w) : LW w0 G N a c ps w := ⟨h.x, h.o.lits, h.t.go h.b, h.b⟩
end

theorem asc_setB {N : Nat} {l : List Nat} (h : Asc N l) : setB N (ints l) = true := by
  refine setB_iff.2 ⟨fun z hz => ?_, ?_⟩
  · unfold ints at hz
    obtain ⟨i, hi, rfl⟩ := List.mem_map.1 hz
    have := h.lt i hi
    show (0 : Int) ≤ (i : Int) ∧ (i : Int) < _
    omega
  · unfold ints
    rw [List.pairwise_map]
    exact h.up.imp fun h => Int.ofNat_lt.2 h
theorem setTo_upd {F : Nat → Bool} {k : Nat} (v : Bool) : setTo (fun j => if j = k then v else F j) (k + 1) = setTo F k ++ if v = true then [k] else [] := by
  rw [setTo_step]
  rw [if_pos rfl]
  congr 1
  unfold setTo
  apply List.filter_congr
  intro i hi
  have := List.mem_range.1 hi
  rw [if_neg (by omega)]
section
variable {N : Nat} {ps : List (Int × Int)} (hix : ∀ p ∈ ps, (0 ≤ p.1 ∧ p.1 < (N : Int)) ∧ (0 ≤ p.2 ∧ p.2 < (N : Int)))
include hix
theorem mono_one {x y : List Int} (hx : setB N x = true) (hy : setB N y = true) (h : ∀ i, i < N → memB x i = true → memB y i = true) : subL (stepL N ps x) (stepL N ps y) = true := by
  rw [stepL_of hx, stepL_of hy, subL_set, subX_iff]
  exact fun i _ hd => dfX_mono hix h hd
omit hix in
theorem inn_least {lab rk : List Int} (h : GSpec N ps lab rk) : ints (withF lab 1) = setL N fun i => decide (lab.getD i 0 = 1) := by
  unfold withF setL
  rw [h.ll]
  congr 1
  apply List.filter_congr
  intro i hi
  have hi := List.mem_range.1 hi
  have hl : i < lab.length := by rw [h.ll]; exact hi
  rw [getD_at hl, List.getElem?_eq_getElem hl]
  simp
theorem step_least {lab rk : List Int} (h : GSpec N ps lab rk) : stepL N ps (setL N fun i => decide (lab.getD i 0 = 1)) = setL N fun i => decide (lab.getD i 0 = 1) := by
  rw [step_set hix]
  have hc := h.complete
  refine setL_congr fun i hi => ?_
  rw [Bool.eq_iff_iff, dfX_iff hix, decide_eq_true_eq, hc.one i hi]
  constructor
  · intro hd k hk
    obtain ⟨m, hm, hx⟩ := hd k hk
    exact (hc.two k (at_lt hix hk).1).2 ⟨m, hm, of_decide_eq_true hx⟩
  · intro hd k hk
    obtain ⟨m, hm, hx⟩ := (hc.two k (at_lt hix hk).1).1 (hd k hk)
    exact ⟨m, hm, decide_eq_true hx⟩
theorem least_in {lab rk x : List Int} (h : GSpec N ps lab rk) (hs : setB N x = true) (hx : stepL N ps x = x) : subL (setL N fun i => decide (lab.getD i 0 = 1)) x = true := by
  have hfix : ∀ i, i < N → dfX ps (memB x) i = true → memB x i = true := by
    rw [stepL_of hs] at hx
    intro i hi hd
    rw [← hx, memB_setL, decide_eq_true hi, Bool.true_and]
    exact hd
  have key : ∀ (m : Nat) (i : Nat), i < N → (rk.getD i 0).toNat ≤ m → lab.getD i 0 = 1 → memB x i = true := by
    intro m
    induction m with
    | zero => intro i hi hm e; have := (h.inn i hi e).1; omega
    | succ m ih =>
      intro i hi hm e
      obtain ⟨g1, g2, -⟩ := h.inn i hi e
      refine hfix i hi ((dfX_iff hix).2 fun k hk => ?_)
      obtain ⟨e1, e2⟩ := g2 k hk
      obtain ⟨-, ⟨j, hj, ej, rj⟩, -⟩ := h.out k (at_lt hix hk).1 e1
      exact ⟨j, hj, ih j (at_lt hix hj).1 (by omega) ej⟩
  conv => lhs; arg 2; rw [setB_eq hs]
  rw [subL_set, subX_iff]
  exact fun i hi e => key _ i hi (Nat.le_refl _) (of_decide_eq_true e)
end
end Go.Proofs.YtihmdnbeonefcaaDoor

namespace Go.Proofs.YtihmdnbeonefcaaDoor
set_option linter.unusedVariables false
set_option linter.unusedSimpArgs false
open Go Go.RowKit Go.Sort

set_option maxRecDepth 100000 in
set_option maxHeartbeats 4000000 in
theorem monotone_walk (lv : Value) (zs : List Int) (w : World) (hz : IntsAt w w.heap.size lv zs) (hT : Tab w) :
    Calls Tryd.prog 5 #[lv] w fun e w' => e = .returned (.bool true) ∧ Below w.heap.size w w' := by
  have HT := hidIt hT
  have HZ := hidIt hz
  clear hz hT
  go_enter Tryd.func5, Tryd.ntmps5
  go_wp2_with fail
  refine (new_any lv zs w.heap.size w HZ.out (Nat.le_refl _)).mono ?_
  rintro e w1 ⟨zs', rfl, hs1, o1, rfl⟩
  have HS1 := hidIt hs1
  have HB1 := hidIt (bgrow w o1)
  have hsz1 : w.heap.size < (w.alloc o1).heap.size := hs1.lt
  clear hs1
  generalize w.alloc o1 = w1 at *
  go_wp2_with fail
  refine (kGraph_any 7 (by decide) _ _ _ _ w1 HS1.out).mono ?_
  rintro e w2 ⟨N, ps, ga, gc, k2, rfl, hN, hok, hpl, hop, hs2, hg2⟩
  have HOK := hidIt hok
  have HPS := hidIt hpl
  have hgr := bgrow w2 (.cells #[.int .i64 (N : Int), .slice ga ps.length gc] 27)
  have HB2 := hidIt (below_read13 HB1.out hg2 (Nat.le_of_lt hsz1))
  have HW3 : Hid (LR w w2.heap.size N ga gc ps zs' (w2.alloc (.cells #[.int .i64 (N : Int), .slice ga ps.length gc] 27))) :=
    ⟨heap_alloc_new w2 _, (hop.mono (by omega)).below hgr, ⟨_, hs2.grow (only_of_below hgr none)⟩, HT.out, HB2.out.trans (Below.mono hgr HB2.out.size), hs2.lt⟩
  clear hok hpl hop hs2 hg2 hgr HB2 HS1 HB1
  go_upto_region 3 with (fail)
  generalize (w2.alloc (.cells #[.int .i64 (N : Int), .slice ga ps.length gc] 27)) = w3 at *
  generalize w2.heap.size = G at *
  have x0 := HW3.out.c0
  have x1 := HW3.out.c1
  have lx := HW3.out.l
  obtain ⟨k3, hs3⟩ := HW3.out.s
  have HS3 := hidIt hs3
  clear hs3
  go_wp2_with fail
  refine (kPart_any N (by omega) _ _ _ _ w3 HS3.out).mono ?_
  rintro e w4 ⟨l, sa, sc, k4, rfl, hasc, hll, hos, hs4, hg4⟩
  have HW4 := hidIt (HW3.out.read hs4 hg4)
  have HAS := hidIt (asc_setB hasc)
  have HA4 : Hid (OwnI w4 (w.heap.size + 1) (.slice sa l.length sc) (ints l)) := hos.base (B' := w.heap.size + 1) HW3.out.sz
  have HLL : Hid ((ints l).length = l.length) := ints_len l
  clear hasc hos hs4 hg4 HS3 HW3 x0 x1 lx
  generalize ints l = al at *
  generalize l.length = la at *
  have hal7 : la ≤ 7 := by omega
  go_wp2_with fail
  go_loopw [6, 7] (fun v6 i wr => ∃ (k m : Nat) (b : Option Addr) (d : Nat) (F : Nat → Bool), k ≤ N ∧ v6 = .slice b m d ∧ i = .int .i64 k ∧ Hid (m = (setTo F k).length) ∧ Hid (∀ i, i < k → memB al i = true → F i = true) ∧ Hid (OwnI wr w4.heap.size (.slice b m d) (ints (setTo F k))) ∧ Hid (w4.grownBy wr (some w.heap.size)) ∧ Hid (LR w G N ga gc ps zs' wr)) (fun _ i _ => N - (intOf i).toNat)
  case atStart => exact ⟨0, 0, none, 0, fun _ => false, Nat.zero_le _, (by first | rfl | trivial), (by first | rfl | trivial), (rfl : 0 = (setTo (fun _ => false) 0).length), (fun i h => absurd h (Nat.not_lt_zero i)), OwnI.nil _ _, only_refl _ _, HW4.out⟩
  case round =>
    obtain ⟨k, m, b, d, F, hk, rfl, rfl, HM, HF, HO, HG, HWr⟩ := hrel
    have hk0 : (0 : Int) ≤ (k : Int) := by omega
    have x0 := HWr.out.c0
    have x1 := HWr.out.c1
    have lx := HWr.out.l
    have HAr : Hid (OwnI wr (w.heap.size + 1) (.slice sa la sc) al) := HA4.out.read HG.out (by omega)
    by_cases hlt : k < N
    · have hkI : (k : Int) < (N : Int) := by omega
      have hmk : m ≤ k := by rw [HM.out]; exact setTo_len _ _
      have HC := hidIt (kIn_any _ al (k : Int) wr HAr.out.il (by have := HLL.out; omega))
      change Hid (Calls _ _ _ _ fun e w' => e = .returned (.bool (memB al k)) ∧ _) at HC
      have HTRUE : Hid (∀ i, i < k + 1 → memB al i = true → (fun j => if j = k then true else F j) i = true) := fun i hi hx => by
        show (if i = k then true else F i) = true
        by_cases e : i = k
        · rw [if_pos e]
        · rw [if_neg e]; exact HF.out i (by omega) hx
      have HFALSE : Hid (memB al k = false → ∀ i, i < k + 1 → memB al i = true → (fun j => if j = k then false else F j) i = true) := fun hm i hi hx => by
        show (if i = k then false else F i) = true
        by_cases e : i = k
        · subst e; rw [hm] at hx; cases hx
        · rw [if_neg e]; exact HF.out i (by omega) hx
      have HST := hidIt (setTo_upd (F := F) (k := k) true)
      have HSF := hidIt (setTo_upd (F := F) (k := k) false)
      rw [if_pos rfl] at HST
      rw [if_neg (by decide), List.append_nil] at HSF
      have HTL : Hid ((ints (setTo F k)).length = m) := by show _ = _; rw [ints_len]; exact HM.out.symm
      have HB4 : Hid (w4.heap.size ≤ wr.heap.size) := HG.out.size
      have hw4 := HW4.out.sz
      cases hmx : memB al k
      · rw [hmx] at HC
        have HF2 := hidIt (HFALSE.out hmx)
        clear hmx HFALSE
        obtain ⟨q, hs⟩ := HWr.out.s
        have HS := hidIt hs
        clear hs
        go_wp2_with fail
        refine HC.out.mono ?_
        rintro e wq ⟨rfl, rfl⟩
        go_wp2_with fail
        refine (sn_nat 3 (by decide) (by decide) _ _ _ _ _ HS.out).mono ?_
        rintro e w6 ⟨z, q', rfl, hz3, hs6, hg6⟩
        have HW6 := hidIt (HWr.out.read hs6 hg6)
        have HG6 := hidIt (only_trans HG.out hg6)
        have HO6 := hidIt (HO.out.read hg6 hw4)
        have HSZ6 := hidIt (Nat.le_trans HB4.out hg6.size)
        clear hs6 hg6 HS HC HWr HG HO HB4 HAr x0 x1 lx
        by_cases hz0 : z = 0
        · have hb : ((z : Int) == 0) = true := beq_iff_eq.2 (by omega)
          clear hz0
          have HO7 := hidIt (HO6.out.news HTL.out (.cells #[.int .i64 (k : Int)] 3))
          have hgr7 := bgrow w6 (.cells #[.int .i64 (k : Int)] 3)
          have HW7 := hidIt (HW6.out.go hgr7)
          have HG7 := hidIt (only_trans HG6.out (only_of_below hgr7 (some w.heap.size)))
          have hsz7 : w4.heap.size ≤ (w6.alloc (.cells #[.int .i64 (k : Int)] 3)).heap.size := Nat.le_trans HSZ6.out hgr7.size
          clear hgr7
          go_wp2_with (at_builtin; refine Hid.out ?_)
          refine hidIt ?_
          refine wpList_append_kb rfl _ _ elemI rfl w4.heap.size (.slice b m d) m _ rfl HO7.out _ 1 rfl #[.int .i64 (k : Int)] 3 (heap_alloc_new _ _) rfl (one_of (by rfl)) (by omega) hsz7 ?_
          intro g8 c8 w8 hown8 hg8 hbl8
          have HG8 : Hid (w4.grownBy w8 (some w.heap.size)) := ⟨hg8.os.trans HG7.out.os, hg8.tape.trans HG7.out.tape, hg8.output.trans HG7.out.output, Nat.le_trans HG7.out.size hg8.size, fun j hj hne => (hg8.block j (Nat.lt_of_lt_of_le hj HG7.out.size) (fun e => by have := (owns_blk HO7.out j e.symm).1; omega)).trans (HG7.out.block j hj hne)⟩
          have HW8 : Hid (LR w G N ga gc ps zs' w8) := by
            have h7 := HW7.out
            have hG4 := HW4.out.l
            have hO4 := HW4.out.o
            obtain ⟨q7, hs7⟩ := h7.s
            refine ⟨(hg8.block G h7.l (fun e => by have := (owns_blk HO7.out G e.symm).1; omega)).trans h7.x, hO4.read HG8.out (by omega), ⟨q7, hs7.kept hg8 fun g e => by have := (owns_blk HO7.out g e).1; omega⟩, h7.t, below_app5 h7.b hg8 (fun g e => by have := (owns_blk HO7.out g e).1; omega) (Nat.le_of_lt h7.sz), h7.g⟩
          have HO8 : Hid (OwnI w8 w4.heap.size (.slice (some ⟨g8, 0, none⟩) (m + 1) c8) (ints (setTo (fun j => if j = k then true else F j) (k + 1)))) := by
            have := OwnI.done HTL.out hown8
            show OwnI _ _ _ _
            rw [HST.out]
            unfold ints at this ⊢
            rw [List.map_append]
            exact this
          have HL8 : Hid (m + 1 = (setTo (fun j => if j = k then true else F j) (k + 1)).length) := by show _ = _; rw [HST.out, List.length_append, ← HM.out]; rfl
          clear hown8 hg8 hbl8 HO7 HG7 HW7 hsz7 HO6 HG6 HW6
          go_wp2_with fail
          go_roundw
          case rel => exact ⟨k + 1, m + 1, some ⟨g8, 0, none⟩, c8, (fun j => if j = k then true else F j), by omega, (by first | rfl | trivial), by go_num, HL8.out, HTRUE.out, HO8.out, HG8.out, HW8.out⟩
          case measure => simp [intOf]; omega
        · have hb : ((z : Int) == 0) = false := beq_eq_false_iff_ne.2 (by omega)
          clear hz0
          go_wp2_with fail
          go_roundw
          case rel => exact ⟨k + 1, m, b, d, (fun j => if j = k then false else F j), by omega, (by first | rfl | trivial), by go_num, (by rw [HSF.out]; exact HM.out), HF2.out, (by rw [HSF.out]; exact HO6.out), HG6.out, HW6.out⟩
          case measure => simp [intOf]; omega
      · rw [hmx] at HC
        clear hmx HFALSE
        go_wp2_with fail
        refine HC.out.mono ?_
        rintro e w6 ⟨rfl, rfl⟩
        have HW6 := hidIt HWr.out
        have HG6 := hidIt HG.out
        have HO6 := hidIt HO.out
        have HSZ6 := hidIt HB4.out
        clear HC HWr HG HO HB4 HAr x0 x1 lx
        have HO7 := hidIt (HO6.out.news HTL.out (.cells #[.int .i64 (k : Int)] 3))
        have hgr7 := bgrow w6 (.cells #[.int .i64 (k : Int)] 3)
        have HW7 := hidIt (HW6.out.go hgr7)
        have HG7 := hidIt (only_trans HG6.out (only_of_below hgr7 (some w.heap.size)))
        have hsz7 : w4.heap.size ≤ (w6.alloc (.cells #[.int .i64 (k : Int)] 3)).heap.size := Nat.le_trans HSZ6.out hgr7.size
        clear hgr7
        go_wp2_with (at_builtin; refine Hid.out ?_)
        refine hidIt ?_
        refine wpList_append_kb rfl _ _ elemI rfl w4.heap.size (.slice b m d) m _ rfl HO7.out _ 1 rfl #[.int .i64 (k : Int)] 3 (heap_alloc_new _ _) rfl (one_of (by rfl)) (by omega) hsz7 ?_
        intro g8 c8 w8 hown8 hg8 hbl8
        have HG8 : Hid (w4.grownBy w8 (some w.heap.size)) := ⟨hg8.os.trans HG7.out.os, hg8.tape.trans HG7.out.tape, hg8.output.trans HG7.out.output, Nat.le_trans HG7.out.size hg8.size, fun j hj hne => (hg8.block j (Nat.lt_of_lt_of_le hj HG7.out.size) (fun e => by have := (owns_blk HO7.out j e.symm).1; omega)).trans (HG7.out.block j hj hne)⟩
        have HW8 : Hid (LR w G N ga gc ps zs' w8) := by
          have h7 := HW7.out
          have hG4 := HW4.out.l
          have hO4 := HW4.out.o
          obtain ⟨q7, hs7⟩ := h7.s
          refine ⟨(hg8.block G h7.l (fun e => by have := (owns_blk HO7.out G e.symm).1; omega)).trans h7.x, hO4.read HG8.out (by omega), ⟨q7, hs7.kept hg8 fun g e => by have := (owns_blk HO7.out g e).1; omega⟩, h7.t, below_app5 h7.b hg8 (fun g e => by have := (owns_blk HO7.out g e).1; omega) (Nat.le_of_lt h7.sz), h7.g⟩
        have HO8 : Hid (OwnI w8 w4.heap.size (.slice (some ⟨g8, 0, none⟩) (m + 1) c8) (ints (setTo (fun j => if j = k then true else F j) (k + 1)))) := by
          have := OwnI.done HTL.out hown8
          show OwnI _ _ _ _
          rw [HST.out]
          unfold ints at this ⊢
          rw [List.map_append]
          exact this
        have HL8 : Hid (m + 1 = (setTo (fun j => if j = k then true else F j) (k + 1)).length) := by show _ = _; rw [HST.out, List.length_append, ← HM.out]; rfl
        clear hown8 hg8 hbl8 HO7 HG7 HW7 hsz7 HO6 HG6 HW6
        go_wp2_with fail
        go_roundw
        case rel => exact ⟨k + 1, m + 1, some ⟨g8, 0, none⟩, c8, (fun j => if j = k then true else F j), by omega, (by first | rfl | trivial), by go_num, HL8.out, HTRUE.out, HO8.out, HG8.out, HW8.out⟩
        case measure => simp [intOf]; omega
    · obtain rfl : N = k := by omega
      have hkI : ¬ (N : Int) < (N : Int) := by omega
      have HBS : Hid (ints (setTo F N) = setL N F) := (rfl : _ = _)
      have HBB := hidIt (setB_setL N F)
      have HMO := hidIt (mono_one HOK.out.ix HAS.out HBB.out fun i hi hx => by rw [memB_back i hi]; exact HF.out i hi hx)
      have HBL : Hid ((setL N F).length = m) := by show _ = _; rw [← HBS.out, ints_len]; exact HM.out.symm
      have HIB : Hid (IL wr (.slice b m d) (setL N F)) := HO.out.il
      have HIA := hidIt HAr.out.il
      have HLW := hidIt HWr.out.lw
      have hm7 : m ≤ 7 := by have := setTo_len F N; have := HM.out; omega
      clear HO HAr HWr HG HM HF HBS
      generalize setL N F = bl at *
      have HAL : Hid (al.length ≤ 7) := by show _ ≤ _; have := HLL.out; omega
      have HBL7 : Hid (bl.length ≤ 7) := by show _ ≤ _; have := HBL.out; omega
      have HR9 : Hid (∀ w6 : World, Below wr.heap.size wr w6 → LW w G N ga gc ps w6 ∧ IL w6 (.slice sa la sc) al ∧ IL w6 (.slice b m d) bl) := fun w6 h => ⟨HLW.out.go h, HIA.out.below h, HIB.out.below h⟩
      have X0 : ∀ wx, Ext wr wx → wx.cell? ⟨G, 0, none⟩ = some (.int .i64 (N : Int)) := fun wx hC => (Below.cell (p := ⟨G, 0, none⟩) hC lx).trans x0
      have X1 : ∀ wx, Ext wr wx → wx.cell? ⟨G, 1, none⟩ = some (.slice ga ps.length gc) := fun wx hC => (Below.cell (p := ⟨G, 1, none⟩) hC lx).trans x1
      have CA : Hid (∀ wx, Ext wr wx → Calls Tryd.prog 25 #[.agg #[.int .i64 (N : Int), .slice ga ps.length gc], .slice sa la sc] wx fun e w'' => ∃ u, e = .returned u ∧ Ext wr w'' ∧ Grows wx w'' ∧ isIq13 (stepL N ps al).length (stepL N ps al) u w'') := fun wx hC => rel_call hC ((qStep_any N _ _ ps al wx (HR9.out wx hC).1.p HOK.out (by have := HPS.out; omega) (HR9.out wx hC).2.1 (by have := HAL.out; omega) (HR9.out wx hC).1.t).mono fun e w'' ⟨v, h1, h2, h3⟩ => ⟨_, h1, isIq13_of h2.il, h3⟩)
      have CB : Hid (∀ wx, Ext wr wx → Calls Tryd.prog 25 #[.agg #[.int .i64 (N : Int), .slice ga ps.length gc], .slice b m d] wx fun e w'' => ∃ u, e = .returned u ∧ Ext wr w'' ∧ Grows wx w'' ∧ isIq13 (stepL N ps bl).length (stepL N ps bl) u w'') := fun wx hC => rel_call hC ((qStep_any N _ _ ps bl wx (HR9.out wx hC).1.p HOK.out (by have := HPS.out; omega) (HR9.out wx hC).2.2 (by have := HBL7.out; omega) (HR9.out wx hC).1.t).mono fun e w'' ⟨v, h1, h2, h3⟩ => ⟨_, h1, isIq13_of h2.il, h3⟩)
      have HSA := hidIt (stepL_len N ps al)
      have HSB := hidIt (stepL_len N ps bl)
      generalize stepL N ps al = p1 at *
      generalize stepL N ps bl = p2 at *
      have CI : Hid (∀ wx a1 c1 a2 c2, Ext wr wx → IL wx (.slice a1 p1.length c1) p1 → IL wx (.slice a2 p2.length c2) p2 → Calls Tryd.prog 38 #[.slice a1 p1.length c1, .slice a2 p2.length c2] wx fun e w'' => ∃ u, e = .returned u ∧ Ext wr w'' ∧ Grows wx w'' ∧ isB true u w'') := fun wx a1 c1 a2 c2 hC h1 h2 => rel_call hC ((kInside_any _ _ p1 p2 wx h1 h2 (by have := HSA.out; omega) (by have := HSB.out; omega)).mono fun e w'' ⟨h3, h4⟩ => ⟨_, h3, (by rw [HMO.out]; rfl), by rw [h4]; exact Below.refl _ _⟩)
      go_wp2_with fail
      haveI := Ext.nonempty wr
      refine wp_region_rel (Ext wr) Grows (relTab [(39, isIq13 p1.length p1), (42, isIq13 p2.length p2), (43, isB true)]) (by kernel_rfl) (by kernel_rfl) (by kernel_rfl) (stable_cons (isIq13_up _ _) (stable_cons (isIq13_up _ _) (stable_cons (isB_up _) (stable_nil _)))) (Ext.start wr) ?_
      repeat (
        refine' walkR_plain (by kernel_rfl) rfl rfl (fun wx hC hL => ?_) ?_
        rotate_left
        · (have hls := Below.size hC
           have hllx := Nat.lt_of_lt_of_le lx hls
           simp only [X0 wx hC, X1 wx hC, hllx, go_sem]; first | done | (go_simp; exact ⟨rfl, rfl⟩))
        simp only [Act.put, List.setIfInBounds_toArray, List.set_cons_zero, List.set_cons_succ])
      refine walkR_rel (by kernel_rfl) rfl rfl (of_decide_eq_true (by kernel_rfl)) (fun wx hC hL => ?_) (fun v hv => ?_)
      · go_simp
        exact CA.out wx hC
      obtain ⟨_, _, a39, c39, rfl, -⟩ := hv
      simp only [Act.put, List.setIfInBounds_toArray, List.set_cons_zero, List.set_cons_succ]
      repeat (
        refine' walkR_plain (by kernel_rfl) rfl rfl (fun wx hC hL => ?_) ?_
        rotate_left
        · (have hls := Below.size hC
           have hllx := Nat.lt_of_lt_of_le lx hls
           simp only [X0 wx hC, X1 wx hC, hllx, go_sem]; first | done | (go_simp; exact ⟨rfl, rfl⟩))
        simp only [Act.put, List.setIfInBounds_toArray, List.set_cons_zero, List.set_cons_succ])
      refine walkR_rel (by kernel_rfl) rfl rfl (of_decide_eq_true (by kernel_rfl)) (fun wx hC hL => ?_) (fun v hv => ?_)
      · go_simp
        exact CB.out wx hC
      obtain ⟨_, _, a42, c42, rfl, -⟩ := hv
      simp only [Act.put, List.setIfInBounds_toArray, List.set_cons_zero, List.set_cons_succ]
      repeat (
        refine' walkR_plain (by kernel_rfl) rfl rfl (fun wx hC hL => ?_) ?_
        rotate_left
        · (have hls := Below.size hC
           have hllx := Nat.lt_of_lt_of_le lx hls
           simp only [X0 wx hC, X1 wx hC, hllx, go_sem]; first | done | (go_simp; exact ⟨rfl, rfl⟩))
        simp only [Act.put, List.setIfInBounds_toArray, List.set_cons_zero, List.set_cons_succ])
      refine walkR_rel (by kernel_rfl) rfl rfl (of_decide_eq_true (by kernel_rfl)) (fun wx hC hL => ?_) (fun v hv => ?_)
      · have k39 := hidIt (isIq13_use (hL.get 39 (by simp [more]) (by kernel_rfl) rfl rfl))
        have k42 := hidIt (isIq13_use (hL.get 42 (by simp [more]) (by kernel_rfl) rfl rfl))
        go_simp
        exact CI.out wx a39 c39 a42 c42 hC k39.out k42.out
      obtain ⟨_, _, rfl⟩ := hv
      simp only [Act.put, List.setIfInBounds_toArray, List.set_cons_zero, List.set_cons_succ]
      repeat (
        refine' walkR_plain (by kernel_rfl) rfl rfl (fun wx hC hL => ?_) ?_
        rotate_left
        · (have hls := Below.size hC
           have hllx := Nat.lt_of_lt_of_le lx hls
           simp only [X0 wx hC, X1 wx hC, hllx, go_sem]; first | done | (go_simp; exact ⟨rfl, rfl⟩))
        simp only [Act.put, List.setIfInBounds_toArray, List.set_cons_zero, List.set_cons_succ])
      refine fun wq hCq hK => ?_
      have HW5 := hidIt (HR9.out wq hCq).1
      clear hK hCq X0 X1 x0 x1 lx CA CB CI HR9 HLW HIA HIB HMO
      have x0 := HW5.out.c0
      have x1 := HW5.out.c1
      have lx := HW5.out.l
      go_wp2_with fail
      refine (uLabel_any N ga gc ps wq HW5.out.p HOK.out (by have := HPS.out; omega)).mono ?_
      rintro e w6 ⟨L, lab, rk, rfl, hl6, hsp, hb6⟩
      have HSP := hidIt hsp
      have HLAB := hidIt hsp.ll
      have HINN := hidIt (inn_least hsp)
      have HSTL := hidIt (step_least HOK.out.ix hsp)
      have HLST : Hid (∀ x, setB N x = true → stepL N ps x = x → subL (setL N fun i => decide (lab.getD i 0 = 1)) x = true) := fun x h1 h2 => least_in HOK.out.ix HSP.out h1 h2
      have HLSL := hidIt (setL_len N fun i => decide (lab.getD i 0 = 1))
      have HLB6 : Hid (IL w6 (.slice (some ⟨L, 0, none⟩) N N) lab) := by
        have h := hl6.il (c := N) (by rw [HLAB.out]; exact Nat.le_refl _) (by unfold maxLen; omega)
        rwa [HLAB.out] at h
      have HW6 := hidIt (HW5.out.go hb6)
      clear hl6 hsp hb6 HW5 x0 x1 lx
      go_wp2_with fail
      refine (lWith_any _ lab 1 w6 HLB6.out (by have := HLAB.out; omega)).mono ?_
      rintro e w7 ⟨ia, ic, rfl, ho7, hb7⟩
      have HLS7 := hidIt ho7.il
      have HIL7 : Hid ((ints (withF lab 1)).length = (withF lab 1).length) := ints_len _
      have HW7 := hidIt (HW6.out.go hb7)
      rw [HINN.out] at HLS7 HIL7
      generalize (withF lab 1).length = il at *
      generalize (setL N fun i => decide (lab.getD i 0 = 1)) = ls at *
      have hil : ls.length = il := HIL7.out
      clear ho7 hb7 HW6 HLB6
      have x0 := HW7.out.c0
      have x1 := HW7.out.c1
      have lx := HW7.out.l
      go_wp2_with fail
      refine (qStep_any N _ _ ps ls w7 HW7.out.p HOK.out (by have := HPS.out; omega) HLS7.out (by have := HLSL.out; omega) HW7.out.t).mono ?_
      rw [HSTL.out]
      rintro e w8 ⟨v8, rfl, ho8, hb8⟩
      have HT8 := hidIt ho8.il
      have HLS8 := hidIt (HLS7.out.below hb8)
      have HW8 := hidIt (HW7.out.go hb8)
      clear ho8 hb8 HW7 HLS7 x0 x1 lx
      obtain ⟨ta, tc, rfl, -⟩ := HT8.out.form
      have HT8 : Hid (IL w8 (.slice ta il tc) ls) := by have := HT8.out; rwa [hil] at this
      go_wp2_with fail
      refine (kInts_any _ _ ls ls w8 HT8.out HLS8.out (by have := HLSL.out; omega) (by have := HLSL.out; omega)).mono ?_
      rw [decide_eq_true rfl]
      rintro e w9 ⟨rfl, hb9⟩
      have HLS9 := hidIt (HLS8.out.below hb9)
      have HW9 := hidIt (HW8.out.go hb9)
      clear hb9 HW8 HLS8 HT8
      have x0 := HW9.out.c0
      have x1 := HW9.out.c1
      have lx := HW9.out.l
      go_wp2_with fail
      refine (rlSets_any N (by omega) w9).mono ?_
      rintro e wS ⟨la, lc, rfl, hll, hbS⟩
      have HWS := hidIt (HW9.out.go hbS)
      have HLSS := hidIt (HLS9.out.below hbS)
      obtain ⟨la', lc', hle, hcs⟩ := hll.form
      injection hle with hle1 hle2 hle3
      subst hle1 hle3
      have HLCS := hidIt hcs
      have HSLS := hidIt (setsL_len N)
      have HSTS : Hid (∀ i (h : i < (setsL N).length), setB N (setsL N)[i] = true) := fun i h => setsL_set h
      obtain ⟨M, hM⟩ : ∃ M, M = 2 ^ N := ⟨_, rfl⟩
      rw [← hM] at HSLS ⊢
      have HM := hidIt hM
      have hM128 : M ≤ 1024 := by rw [hM]; exact Nat.pow_le_pow_right (by decide) (by omega : N ≤ 10)
      clear hll hbS hle2 hcs hM HW9 HLS9
      clear x0 x1 lx
      go_wp2_with fail
      go_loopw [10, 58] (fun _ i wr => ∃ k : Nat, k ≤ M ∧ i = .int .i64 k ∧ Hid (Below wS.heap.size wS wr)) (fun _ i _ => M - (intOf i).toNat)
      case atStart => exact ⟨0, Nat.zero_le _, (by first | rfl | trivial), Below.refl _ _⟩
      case round =>
        obtain ⟨k, hk, rfl, HB⟩ := hrel
        have hk0 : (0 : Int) ≤ (k : Int) := by omega
        have HWr := hidIt (HWS.out.go HB.out)
        by_cases hlt : k < M
        · have hkI : (k : Int) < (M : Int) := by omega
          have hkz : k < (setsL N).length := by have := HSLS.out; omega
          obtain ⟨bo, oo, u, rfl, lo, cu, iu⟩ := HLCS.out k hkz
          have cu2 := (Below.cell (p := ⟨bo, oo + k, none⟩) HB.out lo).trans cu
          have lo2 := Nat.lt_of_lt_of_le lo HB.out.size
          have HIX := hidIt (iu.below HB.out)
          have HSX := hidIt (HSTS.out k hkz)
          generalize (setsL N)[k] = x at *
          obtain ⟨xa, xc, rfl, -⟩ := HIX.out.form
          have HXL : Hid (x.length ≤ 10) := Nat.le_trans (setB_len HSX.out) (by omega)
          have HLSr := hidIt (HLSS.out.below HB.out)
          clear cu iu lo hkz
          have x0 := HWr.out.c0
          have x1 := HWr.out.c1
          have lx := HWr.out.l
          go_wp2_with fail
          refine (qStep_any N _ _ ps x wr HWr.out.p HOK.out (by have := HPS.out; omega) HIX.out (by have := HXL.out; omega) HWr.out.t).mono ?_
          rintro e wa ⟨va, rfl, hoa, hba⟩
          have HTA := hidIt hoa.il
          have HBa := hidIt (HB.out.trans (Below.mono hba HB.out.size))
          have HIa := hidIt (HIX.out.below hba)
          have HLa := hidIt (HLSr.out.below hba)
          have HTAL := hidIt (stepL_len N ps x)
          have HLX := hidIt (HLST.out x HSX.out)
          clear hoa hba HB HWr HIX HLSr cu2 lo2 x0 x1 lx
          generalize stepL N ps x = sx at *
          obtain ⟨sa2, sc2, rfl, -⟩ := HTA.out.form
          go_wp2_with fail
          refine (kInts_any _ _ sx x wa HTA.out HIa.out (by have := HTAL.out; omega) (by have := HXL.out; omega)).mono ?_
          by_cases hsx : sx = x
          · have HSUB := hidIt (HLX.out hsx)
            rw [decide_eq_true hsx]
            clear hsx HLX
            rintro e wb ⟨rfl, hbb⟩
            have HBb := hidIt (HBa.out.trans (Below.mono hbb HBa.out.size))
            have HIb := hidIt (HIa.out.below hbb)
            have HLb := hidIt (HLa.out.below hbb)
            clear hbb
            go_wp2_with fail
            refine (kInside_any _ _ ls x wb HLb.out HIb.out (by have := HLSL.out; omega) (by have := HXL.out; omega)).mono ?_
            rw [HSUB.out]
            rintro e wc ⟨rfl, rfl⟩
            go_wp2_with fail
            go_roundw
            case rel => exact ⟨k + 1, by omega, by go_num, HBb.out⟩
            case measure => simp [intOf]; omega
          · rw [decide_eq_false hsx]
            clear hsx HLX
            rintro e wb ⟨rfl, hbb⟩
            have HBb := hidIt (HBa.out.trans (Below.mono hbb HBa.out.size))
            clear hbb
            go_wp2_with fail
            go_roundw
            case rel => exact ⟨k + 1, by omega, by go_num, HBb.out⟩
            case measure => simp [intOf]; omega
        · obtain rfl : k = M := by omega
          have hkI : ¬ (k : Int) < (k : Int) := by omega
          go_wp2_with fail
          refine (awake13_any _ HWr.out.t).mono ?_
          rintro e w30 ⟨rfl, hb⟩
          have HBF := hidIt (HWr.out.b.trans (Below.mono hb HWr.out.b.size))
          clear hb
          go_wp2_with fail
          go_ret
          exact ⟨rfl, HBF.out⟩
end Go.Proofs.YtihmdnbeonefcaaDoor
