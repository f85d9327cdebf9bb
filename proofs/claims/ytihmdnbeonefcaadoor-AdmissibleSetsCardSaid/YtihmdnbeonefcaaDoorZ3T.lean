/- The law GraphInduces: for every list of numbers it answers true. A graph beside a reader; the characteristic function and its least fixed point. Lists that no reader turns; five of them in a row. The law AdmissibleSets: for any list, any number and every list of numbers it answers true. -/
import Derived.Test.YtihmdnbeonefcaaDoorG1I
import Derived.Test.YtihmdnbeonefcaaDoorNew
import Derived.Test.YtihmdnbeonefcaaDoorZ3N1M
import Derived.Test.YtihmdnbeonefcaaDoorZ3M1I

namespace Go.Proofs.YtihmdnbeonefcaaDoor
set_option linter.unusedVariables false
set_option linter.unusedSimpArgs false
open Go Go.RowKit Go.Sort

theorem OwnPairs.read {w w' : World} {B b : Nat} {v : Value} {xs : List (Int × Int)} (h : OwnPairs w B v xs) (hg : w.grownBy w' (some b)) (hb : b < B) : OwnPairs w' B v xs := by
  rcases h with h | ⟨g, cap, h1, h2, h3, h4, h5, h6⟩
  · exact .inl h
  · have hk : w'.heap[g]? = w.heap[g]? := hg.block g h5 (fun e => by injection e with e; omega)
    exact .inr ⟨g, cap, h1, h2, h3, h4, Nat.lt_of_lt_of_le h5 hg.size, holds_block h6 hk⟩
theorem OwnI.read {w w' : World} {B b : Nat} {v : Value} {zs : List Int} (h : OwnI w B v zs) (hg : w.grownBy w' (some b)) (hb : b < B) : OwnI w' B v zs :=
  owns_kept h fun g e => hg.block g (owns_blk h g e).2 (fun e2 => by injection e2 with e2; have := (owns_blk h g e).1; omega)
theorem blk_read {w w' : World} {b g : Nat} {o : Obj} (h : w.heap[g]? = some o) (hg : w.grownBy w' (some b)) (hne : g ≠ b) : w'.heap[g]? = some o :=
  (hg.block g (lt_of_block h) (fun e => hne (by first | exact Option.some.inj e | exact (Option.some.inj e).symm))).trans h
theorem below_read {w a a' : World} {b : Nat} (h : Below b w a) (hg : a.grownBy a' (some b)) (hna : b ≤ a.heap.size) : Below b w a' := below_app5 h hg (fun g e => by injection e with e; omega) hna
end Go.Proofs.YtihmdnbeonefcaaDoor

namespace Go.Proofs.YtihmdnbeonefcaaDoor
set_option linter.unusedVariables false
set_option linter.unusedSimpArgs false
open Go Go.RowKit Go.Sort

theorem isIq13_of {w : World} {v : Value} {xs : List Int} (h : IL w v xs) : isIq13 xs.length xs v w := by
  obtain ⟨a, c, rfl, -⟩ := h.form
  exact ⟨a, c, rfl, h⟩
/-- The law's graph in its box, a reader of numbers, the library's table. -/
structure LR (w0 : World) (G N : Nat) (a : Option Addr) (c : Nat) (ps : List (Int × Int)) (zs : List Int) (w : World) : Prop where
  x : w.heap[G]? = some (.cells #[.int .i64 (N : Int), .slice a ps.length c] 27 (0, 0))
  o : OwnPairs w (w0.heap.size + 1) (.slice a ps.length c) ps
  s : ∃ k, SrcAt w w0.heap.size w0.heap.size zs k
  t : Tab w0
  b : Below w0.heap.size w0 w
  g : w0.heap.size < G
section
variable {w0 : World} {G N : Nat} {a : Option Addr} {c : Nat} {ps : List (Int × Int)} {zs : List Int} {w w' : World}
theorem LR.l (h : LR w0 G N a c ps zs w) : G < w.heap.size := lt_of_block h.x
theorem LR.c0 (h : LR w0 G N a c ps zs w) : w.cell? ⟨G, 0, none⟩ = some (.int .i64 (N : Int)) := cell_two0 h.x
theorem LR.c1 (h : LR w0 G N a c ps zs w) : w.cell? ⟨G, 1, none⟩ = some (.slice a ps.length c) := cell_two1 h.x
theorem LR.sz (h : LR w0 G N a c ps zs w) : w0.heap.size < w.heap.size := Nat.lt_trans h.g h.l
theorem LR.go (h : LR w0 G N a c ps zs w) (hb : Below w.heap.size w w') : LR w0 G N a c ps zs w' := by
  obtain ⟨k, hk⟩ := h.s
  exact ⟨blk_kept2 h.x hb, h.o.below hb, ⟨k, hk.grow (only_of_below hb none)⟩, h.t, h.b.trans (Below.mono hb h.b.size), h.g⟩
theorem LR.read (h : LR w0 G N a c ps zs w) {k : Nat} (hs : SrcAt w' w0.heap.size w0.heap.size zs k) (hg : w.grownBy w' (some w0.heap.size)) : LR w0 G N a c ps zs w' :=
  ⟨blk_read h.x hg (by have := h.g; omega), h.o.read hg (by omega), ⟨k, hs⟩, h.t, below_read h.b hg (Nat.le_of_lt h.sz), h.g⟩
/-- The same where blocks beyond the graph's may have turned, too. -/
theorem LR.lw (h : LR w0 G N a c ps zs w) : LW w0 G N a c ps w := ⟨h.x, h.o.lits, h.t.go h.b, h.b⟩
end

theorem asc_setB {N : Nat} {l : List Nat} (h : Asc N l) : setB N (ints l) = true := by
  refine setB_iff.2 ⟨fun z hz => ?_, ?_⟩
  · unfold ints at hz
    obtain ⟨i, hi, rfl⟩ := List.mem_map.1 hz
    have := h.lt i hi
    show (0 : Int) ≤ (i : Int) ∧ (i : Int) < _
    omega
  · unfold ints
    rw [List.pairwise_map]
    exact h.up.imp fun h => Int.ofNat_lt.2 h
theorem setTo_upd {F : Nat → Bool} {k : Nat} (v : Bool) : setTo (fun j => if j = k then v else F j) (k + 1) = setTo F k ++ if v = true then [k] else [] := by
  rw [setTo_step]
  rw [if_pos rfl]
  congr 1
  unfold setTo
  apply List.filter_congr
  intro i hi
  have := List.mem_range.1 hi
  rw [if_neg (by omega)]
section
variable {N : Nat} {ps : List (Int × Int)} (hix : ∀ p ∈ ps, (0 ≤ p.1 ∧ p.1 < (N : Int)) ∧ (0 ≤ p.2 ∧ p.2 < (N : Int)))
include hix
theorem mono_one {x y : List Int} (hx : setB N x = true) (hy : setB N y = true) (h : ∀ i, i < N → memB x i = true → memB y i = true) : subL (stepL N ps x) (stepL N ps y) = true := by
  rw [stepL_of hx, stepL_of hy, subL_set, subX_iff]
  exact fun i _ hd => dfX_mono hix h hd
omit hix in
theorem inn_least {lab rk : List Int} (h : GSpec N ps lab rk) : ints (withF lab 1) = setL N fun i => decide (lab.getD i 0 = 1) := by
  unfold withF setL
  rw [h.ll]
  congr 1
  apply List.filter_congr
  intro i hi
  have hi := List.mem_range.1 hi
  have hl : i < lab.length := by rw [h.ll]; exact hi
  rw [getD_at hl, List.getElem?_eq_getElem hl]
  simp
theorem step_least {lab rk : List Int} (h : GSpec N ps lab rk) : stepL N ps (setL N fun i => decide (lab.getD i 0 = 1)) = setL N fun i => decide (lab.getD i 0 = 1) := by
  rw [step_set hix]
  have hc := h.complete
  refine setL_congr fun i hi => ?_
  rw [Bool.eq_iff_iff, dfX_iff hix, decide_eq_true_eq, hc.one i hi]
  constructor
  · intro hd k hk
    obtain ⟨m, hm, hx⟩ := hd k hk
    exact (hc.two k (at_lt hix hk).1).2 ⟨m, hm, of_decide_eq_true hx⟩
  · intro hd k hk
    obtain ⟨m, hm, hx⟩ := (hc.two k (at_lt hix hk).1).1 (hd k hk)
    exact ⟨m, hm, decide_eq_true hx⟩
theorem least_in {lab rk x : List Int} (h : GSpec N ps lab rk) (hs : setB N x = true) (hx : stepL N ps x = x) : subL (setL N fun i => decide (lab.getD i 0 = 1)) x = true := by
  have hfix : ∀ i, i < N → dfX ps (memB x) i = true → memB x i = true := by
    rw [stepL_of hs] at hx
    intro i hi hd
    rw [← hx, memB_setL, decide_eq_true hi, Bool.true_and]
    exact hd
  have key : ∀ (m : Nat) (i : Nat), i < N → (rk.getD i 0).toNat ≤ m → lab.getD i 0 = 1 → memB x i = true := by
    intro m
    induction m with
    | zero => intro i hi hm e; have := (h.inn i hi e).1; omega
    | succ m ih =>
      intro i hi hm e
      obtain ⟨g1, g2, -⟩ := h.inn i hi e
      refine hfix i hi ((dfX_iff hix).2 fun k hk => ?_)
      obtain ⟨e1, e2⟩ := g2 k hk
      obtain ⟨-, ⟨j, hj, ej, rj⟩, -⟩ := h.out k (at_lt hix hk).1 e1
      exact ⟨j, hj, ih j (at_lt hix hj).1 (by omega) ej⟩
  conv => lhs; arg 2; rw [setB_eq hs]
  rw [subL_set, subX_iff]
  exact fun i hi e => key _ i hi (Nat.le_refl _) (of_decide_eq_true e)
end
end Go.Proofs.YtihmdnbeonefcaaDoor

namespace Go.Proofs.YtihmdnbeonefcaaDoor
set_option linter.unusedVariables false
set_option linter.unusedSimpArgs false
open Go Go.RowKit Go.Sort

/-- A list that does not lie in the block b. -/
def ILn (b : Nat) (w : World) (v : Value) (zs : List Int) : Prop := (v = .slice none 0 0 ∧ zs = []) ∨
  ∃ (g off cap : Nat), v = .slice (some ⟨g, off, none⟩) zs.length cap ∧ zs.length ≤ cap ∧ cap ≤ maxLen ∧ g < w.heap.size ∧ g ≠ b ∧ ∀ i (h : i < zs.length), w.cell? ⟨g, off + i, none⟩ = some (.int .i64 zs[i])
theorem ILn.nil (b : Nat) (w : World) : ILn b w (.slice none 0 0) [] := .inl ⟨rfl, rfl⟩
theorem ILn.il {b : Nat} {w : World} {v : Value} {zs : List Int} (h : ILn b w v zs) : IL w v zs := by
  rcases h with h | ⟨g, off, cap, h1, h2, h3, h4, -, h6⟩
  · exact .inl h
  · exact .inr ⟨g, off, cap, h1, h2, h3, h4, h6⟩
theorem ILn.keep {b : Nat} {w w' : World} {v : Value} {zs : List Int} (h : ILn b w v zs) (hg : w.grownBy w' (some b)) : ILn b w' v zs := by
  rcases h with h | ⟨g, off, cap, h1, h2, h3, h4, h5, h6⟩
  · exact .inl h
  · refine .inr ⟨g, off, cap, h1, h2, h3, Nat.lt_of_lt_of_le h4 hg.size, h5, fun i hi => ?_⟩
    have hk : w'.heap[g]? = w.heap[g]? := hg.block g h4 (fun e => by injection e with e; omega)
    have := h6 i hi
    unfold World.cell? at this ⊢
    rw [hk]
    exact this
theorem ILn.old {b : Nat} {w w' : World} {v : Value} {zs : List Int} (h : IL w v zs) (hb : Below w.heap.size w w') (he : b = w.heap.size) : ILn b w' v zs := by
  rcases h with h | ⟨g, off, cap, h1, h2, h3, h4, h5⟩
  · exact .inl h
  · exact .inr ⟨g, off, cap, h1, h2, h3, Nat.lt_of_lt_of_le h4 hb.size, by omega, fun i hi => (Below.cell (p := ⟨g, off + i, none⟩) hb h4).trans (h5 i hi)⟩
theorem ILn.own {b L : Nat} {w : World} {v : Value} {zs : List Int} (h : OwnI w L v zs) (hb : b < L) : ILn b w v zs := by
  rcases h.2 with ⟨rfl, h0⟩ | ⟨g, cap, cur, rfl, hB, hg, hnc, hcm, -, -⟩
  · exact .inl ⟨rfl, List.eq_nil_of_length_eq_zero h0⟩
  · refine .inr ⟨g, 0, cap, rfl, hnc, hcm, lt_of_block hg, by omega, fun i hi => ?_⟩
    rw [Nat.zero_add]
    exact owns_cell h rfl i _ (by rw [List.getElem?_map, List.getElem?_eq_getElem hi]; rfl)
/-- Some short list. -/
def isSome13 (b : Nat) : Value → World → Prop := fun v w => ∃ (a : Option Addr) (n c : Nat) (xs : List Int), v = .slice a n c ∧ ILn b w (.slice a n c) xs ∧ xs.length ≤ 100
theorem isSome13_keep {b : Nat} {v : Value} {w w' : World} (h : isSome13 b v w) (hg : w.grownBy w' (some b)) : isSome13 b v w' := by
  obtain ⟨a, n, c, xs, h1, h2, h3⟩ := h
  exact ⟨a, n, c, xs, h1, h2.keep hg, h3⟩
/-- A row of m short lists. -/
def isRow13 (b m : Nat) : Value → World → Prop := fun v w => ∃ g : Nat, v = .slice (some ⟨g, 0, none⟩) m m ∧ g < w.heap.size ∧ g ≠ b ∧ ∀ k, k < m → ∃ u, w.cell? ⟨g, k, none⟩ = some u ∧ isSome13 b u w
theorem isRow13_keep {b m : Nat} {v : Value} {w w' : World} (h : isRow13 b m v w) (hg : w.grownBy w' (some b)) : isRow13 b m v w' := by
  obtain ⟨g, h1, h2, h3, h4⟩ := h
  refine ⟨g, h1, Nat.lt_of_lt_of_le h2 hg.size, h3, fun k hk => ?_⟩
  obtain ⟨u, h5, h6⟩ := h4 k hk
  have hkk : w'.heap[g]? = w.heap[g]? := hg.block g h2 (fun e => by injection e with e; omega)
  refine ⟨u, ?_, isSome13_keep h6 hg⟩
  unfold World.cell? at h5 ⊢
  rw [hkk]
  exact h5
theorem row13_blk {b : Nat} {w : World} {us : List Value} (hb : b < w.heap.size) (h : ∀ u ∈ us, isSome13 b u w) (t : TypeId) : isRow13 b us.length (.slice (some ⟨w.heap.size, 0, none⟩) us.length us.length) (w.alloc (.cells us.toArray t)) := by
  have hn := heap_alloc_new w (.cells us.toArray t)
  have hgr := bgrow w (.cells us.toArray t)
  refine ⟨w.heap.size, rfl, lt_of_block hn, by omega, fun k hk => ⟨us[k], ?_, isSome13_keep (h _ (List.getElem_mem hk)) (only_of_below hgr _)⟩⟩
  generalize w.alloc _ = W at hn
  simp [World.cell?, hn, hk]
/-- The class of worlds in which a reader may have turned. -/
def Rd (w8 : World) (b : Nat) (zs : List Int) (wx : World) : Prop := w8.grownBy wx (some b) ∧ ∃ q, SrcAt wx b b zs q
theorem Rd.call {w8 wx w' : World} {b q : Nat} {zs : List Int} (h : Rd w8 b zs wx) (hs : SrcAt w' b b zs q) (hg : wx.grownBy w' (some b)) : Rd w8 b zs w' := ⟨only_trans h.1 hg, q, hs⟩
theorem Rd.alloc {w8 wx : World} {b : Nat} {zs : List Int} (h : Rd w8 b zs wx) (o : Obj) : Rd w8 b zs (wx.alloc o) := ⟨only_alloc h.1 _, h.2.imp fun _ h => h.alloc _⟩
end Go.Proofs.YtihmdnbeonefcaaDoor

namespace Go.Proofs.YtihmdnbeonefcaaDoor
set_option linter.unusedVariables false
set_option linter.unusedSimpArgs false
open Go Go.RowKit Go.Sort

set_option maxRecDepth 100000 in
set_option maxHeartbeats 8000000 in
theorem sets13_walk (v1 : Value) (raw : List Int) (n1 : Int) (lv : Value) (zs : List Int) (w : World) (h1 : IL w v1 raw) (hn1 : -9223372036854775808 ≤ n1 ∧ n1 ≤ 9223372036854775807) (hz : IntsAt w w.heap.size lv zs) (hT : Tab w) :
    Calls Tryd.prog 3 #[v1, .int .i64 n1, lv] w fun e w' => e = .returned (.bool true) ∧ Below w.heap.size w w' := by
  have HT := hidIt hT
  have HZ := hidIt hz
  have H1 := hidIt h1
  obtain ⟨ra, rc, rfl, -⟩ := h1.form
  obtain ⟨R, hR⟩ : ∃ R, R = raw.length := ⟨_, rfl⟩
  have HR := hidIt hR
  rw [← hR] at H1 ⊢
  clear hz hT h1 hR
  go_enter Tryd.func3, Tryd.ntmps3
  by_cases hrw : 60 < R
  · have hrI : (60 : Int) < (R : Int) := by omega
    go_wp2_with fail
    go_ret
    exact ⟨rfl, Below.refl _ _⟩
  have hrI : ¬ (60 : Int) < (R : Int) := by omega
  go_wp2_with fail
  refine (new_any lv zs w.heap.size w HZ.out (Nat.le_refl _)).mono ?_
  rintro e w1 ⟨zs', rfl, hs1, o1, rfl⟩
  have HS1 := hidIt hs1
  have HB1 := hidIt (bgrow w o1)
  have hsz1 : w.heap.size < (w.alloc o1).heap.size := hs1.lt
  clear hs1
  generalize w.alloc o1 = w1 at *
  go_wp2_with fail
  refine (kGraph_any 8 (by decide) _ _ _ _ w1 HS1.out).mono ?_
  rintro e w2 ⟨N, ps, ga, gc, k2, rfl, hN, hok, hpl, hop, hs2, hg2⟩
  have HOK := hidIt hok
  have HPS := hidIt hpl
  have hgr := bgrow w2 (.cells #[.int .i64 (N : Int), .slice ga ps.length gc] 27)
  have HB2 := hidIt (below_read13 HB1.out hg2 (Nat.le_of_lt hsz1))
  have HW3 : Hid (LR w w2.heap.size N ga gc ps zs' (w2.alloc (.cells #[.int .i64 (N : Int), .slice ga ps.length gc] 27))) :=
    ⟨heap_alloc_new w2 _, (hop.mono (by omega)).below hgr, ⟨_, hs2.grow (only_of_below hgr none)⟩, HT.out, HB2.out.trans (Below.mono hgr HB2.out.size), hs2.lt⟩
  clear hok hpl hop hs2 hg2 hgr HB2 HS1 HB1
  go_upto_region 5 with (fail)
  generalize (w2.alloc (.cells #[.int .i64 (N : Int), .slice ga ps.length gc] 27)) = w3 at *
  generalize w2.heap.size = G at *
  have x0 := HW3.out.c0
  have x1 := HW3.out.c1
  have lx := HW3.out.l
  obtain ⟨k3, hs3⟩ := HW3.out.s
  have HS3 := hidIt hs3
  have hb3 := HW3.out.sz
  clear hs3
  go_wp2_with fail
  refine (kPart_any N (by omega) _ _ _ _ w3 HS3.out).mono ?_
  rintro e w4 ⟨l, sa, sc, k4, rfl, hasc, hll, hos, hs4, hg4⟩
  have HS4 := hidIt hs4
  have HG4 := hidIt hg4
  have HA4 : Hid (OwnI w4 w3.heap.size (.slice sa l.length sc) (ints l)) := hos
  have HLL : Hid ((ints l).length = l.length) := ints_len l
  clear hasc hos hs4 hg4 HS3 x0 x1 lx
  generalize ints l = al at *
  generalize l.length = la at *
  have hla8 : la ≤ 8 := by omega
  go_wp2_with fail
  refine (sn_nat 12 (by decide) (by decide) _ _ _ _ w4 HS4.out).mono ?_
  rintro e w5 ⟨z, k5, rfl, hz12, hs5, hg5⟩
  have hwz : IntKind.i64.wrap ((z : Int) - 2) = (z : Int) - 2 := IntWalk.i64_in _ (by omega)
  have hgr6 := bgrow w5 (.cells #[.int .i64 ((z : Int) - 2)] 3)
  have HG6 := hidIt (only_trans (only_trans HG4.out hg5) (only_of_below hgr6 (some w.heap.size)))
  have HS6 := hidIt (hs5.grow (only_of_below hgr6 none))
  have HTL : Hid (al.length = la) := HLL.out
  have HA5 := hidIt (HA4.out.read hg5 hb3)
  have HO7 := hidIt (HA5.out.news HTL.out (.cells #[.int .i64 ((z : Int) - 2)] 3))
  have hsz7 : w3.heap.size ≤ (w5.alloc (.cells #[.int .i64 ((z : Int) - 2)] 3)).heap.size := HG6.out.size
  clear hs5 hg5 hgr6 HS4 HG4 HA4 HA5
  go_wp2_with (at_builtin; refine Hid.out ?_)
  refine hidIt ?_
  refine wpList_append_kb rfl (.tmp 23) (.tmp 27) elemI rfl w3.heap.size (.slice sa la sc) la _ rfl HO7.out _ 1 rfl #[.int .i64 ((z : Int) - 2)] 3 (heap_alloc_new _ _) rfl (one_of (by rfl)) (by omega) hsz7 ?_
  intro g8 c8 w8 hown8 hg8 hbl8
  have HO8 : Hid (OwnI w8 w3.heap.size (.slice (some ⟨g8, 0, none⟩) (la + 1) c8) (al ++ [(z : Int) - 2])) := OwnI.done HTL.out hown8
  have HG8 : Hid (w3.grownBy w8 (some w.heap.size)) := ⟨hg8.os.trans HG6.out.os, hg8.tape.trans HG6.out.tape, hg8.output.trans HG6.out.output, Nat.le_trans HG6.out.size hg8.size, fun j hj hne => (hg8.block j (Nat.lt_of_lt_of_le hj HG6.out.size) (fun e => by have := (owns_blk HO7.out j e.symm).1; omega)).trans (HG6.out.block j hj hne)⟩
  have HS8 := hidIt (HS6.out.kept hg8 fun g e => by have := (owns_blk HO7.out g e).1; omega)
  have HW8 := hidIt (HW3.out.read HS8.out HG8.out)
  have HRW := hidIt (ILn.old (b := w.heap.size) H1.out HW8.out.b rfl)
  have HOD := hidIt (ILn.own HO8.out hb3)
  have HODL : Hid ((al ++ [(z : Int) - 2]).length ≤ 100) := by show _ ≤ _; rw [List.length_append, HTL.out]; show la + 1 ≤ 100; omega
  have HRWL : Hid (raw.length ≤ 100) := by show _ ≤ _; have := HR.out; omega
  have hsz8 := HW8.out.sz
  clear hown8 hg8 hbl8 HO7 HG6 HS6 HO8 hsz7 HW3 HG8
  generalize al ++ [(z : Int) - 2] = ol at *
  go_wp2_with fail
  have x0 := HW8.out.c0
  have x1 := HW8.out.c1
  have lx := HW8.out.l
  have X0 : ∀ wx, Rd w8 w.heap.size zs' wx → wx.cell? ⟨G, 0, none⟩ = some (.int .i64 (N : Int)) := fun wx hC => (HW8.out.read hC.2.choose_spec hC.1).c0
  have X1 : ∀ wx, Rd w8 w.heap.size zs' wx → wx.cell? ⟨G, 1, none⟩ = some (.slice ga ps.length gc) := fun wx hC => (HW8.out.read hC.2.choose_spec hC.1).c1
  have CP : Hid (∀ (n : Nat) (wx : World), n ≤ 40 → Rd w8 w.heap.size zs' wx → Calls Tryd.prog 12 #[.pointer (some ⟨w.heap.size, 0, none⟩), .int .i64 (n : Int)] wx fun e w'' => ∃ u, e = .returned u ∧ Rd w8 w.heap.size zs' w'' ∧ wx.grownBy w'' (some w.heap.size) ∧ isSome13 w.heap.size u w'') := fun n wx hn hC => by
    refine (kPart_any n hn _ _ _ _ wx hC.2.choose_spec).mono ?_
    rintro e w'' ⟨l, a, c, k, rfl, hasc, hll, hos, hs, hg⟩
    exact ⟨_, rfl, hC.call hs hg, hg, ⟨a, l.length, c, ints l, rfl, ILn.own hos (by have := hC.1.size; omega), by rw [ints_len]; omega⟩⟩
  haveI : Nonempty (In (Ext w8)) := Ext.nonempty w8
  refine wp_region_rel (Rd w8 w.heap.size zs') (fun x y => x.grownBy y (some w.heap.size)) (relTab [(33, isSome13 w.heap.size), (38, isSome13 w.heap.size), (40, isRow13 w.heap.size 5)]) (by kernel_rfl) (by kernel_rfl) (by kernel_rfl) (fun s r hs v x y hx hy hg hr => ?_) ⟨only_of_below (Below.refl _ _).drew _, _, HS8.out.grow (only_of_below (Below.refl _ _).drew none)⟩ ?_
  · unfold relTab at hs
    split at hs
    · injection hs with hs
      subst hs
      exact isSome13_keep hr hg
    unfold relTab at hs
    split at hs
    · injection hs with hs
      subst hs
      exact isSome13_keep hr hg
    unfold relTab at hs
    split at hs
    · injection hs with hs
      subst hs
      exact isRow13_keep hr hg
    · cases hs
  repeat (
    refine' walkR_plain (by kernel_rfl) rfl rfl (fun wx hC hL => ?_) ?_
    rotate_left
    · (have hls := hC.1.size
       have hlx := Nat.lt_of_lt_of_le lx hls
       simp only [X0 wx hC, X1 wx hC, hlx, go_sem]; first | done | (go_simp; exact ⟨rfl, rfl⟩))
    simp only [Act.put, List.setIfInBounds_toArray, List.set_cons_zero, List.set_cons_succ])
  refine walkR_rel (by kernel_rfl) rfl rfl (of_decide_eq_true (by kernel_rfl)) (fun wx hC hL => ?_) (fun v hv => ?_)
  · go_simp
    exact CP.out N wx (by omega) hC
  obtain ⟨_, _, a33, n33, c33, x33, rfl, -⟩ := hv
  simp only [Act.put, List.setIfInBounds_toArray, List.set_cons_zero, List.set_cons_succ]
  repeat (
    refine' walkR_plain (by kernel_rfl) rfl rfl (fun wx hC hL => ?_) ?_
    rotate_left
    · (have hls := hC.1.size
       have hlx := Nat.lt_of_lt_of_le lx hls
       simp only [X0 wx hC, X1 wx hC, hlx, go_sem]; first | done | (go_simp; exact ⟨rfl, rfl⟩))
    simp only [Act.put, List.setIfInBounds_toArray, List.set_cons_zero, List.set_cons_succ])
  refine walkR_rel (by kernel_rfl) rfl rfl (of_decide_eq_true (by kernel_rfl)) (fun wx hC hL => ?_) (fun v hv => ?_)
  · go_simp
    rw [show (min (N : Int) 3) = ((min N 3 : Nat) : Int) by omega]
    exact CP.out (min N 3) wx (by omega) hC
  obtain ⟨_, _, a38, n38, c38, x38, rfl, -⟩ := hv
  simp only [Act.put, List.setIfInBounds_toArray, List.set_cons_zero, List.set_cons_succ]
  repeat (
    refine' walkR_plain (by kernel_rfl) rfl rfl (fun wx hC hL => ?_) ?_
    rotate_left
    · (have hls := hC.1.size
       have hlx := Nat.lt_of_lt_of_le lx hls
       simp only [X0 wx hC, X1 wx hC, hlx, go_sem]; first | done | (go_simp; exact ⟨rfl, rfl⟩))
    simp only [Act.put, List.setIfInBounds_toArray, List.set_cons_zero, List.set_cons_succ])
  refine walkR_rel (by kernel_rfl) rfl rfl (of_decide_eq_true (by kernel_rfl)) (fun wx hC hL => ?_) (fun v hv => ?_)
  · have k33 : isSome13 w.heap.size (.slice a33 n33 c33) wx := hL.get 33 (by simp [more]) (by kernel_rfl) rfl rfl
    have k38 : isSome13 w.heap.size (.slice a38 n38 c38) wx := hL.get 38 (by simp [more]) (by kernel_rfl) rfl rfl
    have kr : isSome13 w.heap.size (.slice ra R rc) wx := ⟨ra, R, rc, raw, rfl, HRW.out.keep hC.1, HRWL.out⟩
    have ko : isSome13 w.heap.size (.slice (some ⟨g8, 0, none⟩) (la + 1) c8) wx := ⟨_, _, _, ol, rfl, HOD.out.keep hC.1, HODL.out⟩
    have kn : isSome13 w.heap.size (.slice none 0 0) wx := ⟨none, 0, 0, [], rfl, ILn.nil _ _, by decide⟩
    have hrow := row13_blk (us := [.slice ra R rc, .slice a33 n33 c33, .slice a38 n38 c38, .slice (some ⟨g8, 0, none⟩) (la + 1) c8, .slice none 0 0]) (b := w.heap.size) (w := wx) (by have := hC.1.size; omega) (fun u hu => by
      simp only [List.mem_cons, List.not_mem_nil, or_false] at hu
      rcases hu with rfl | rfl | rfl | rfl | rfl
      · exact kr
      · exact k33
      · exact k38
      · exact ko
      · exact kn) 22
    go_simp
    exact ⟨hC.alloc _, only_alloc (only_refl _ _) _, hrow⟩
  obtain ⟨_, _, g40, rfl, -, -, -⟩ := hv
  simp only [Act.put, List.setIfInBounds_toArray, List.set_cons_zero, List.set_cons_succ]
  repeat (
    refine' walkR_plain (by kernel_rfl) rfl rfl (fun wx hC hL => ?_) ?_
    rotate_left
    · (have hls := hC.1.size
       have hlx := Nat.lt_of_lt_of_le lx hls
       simp only [X0 wx hC, X1 wx hC, hlx, go_sem]; first | done | (go_simp; exact ⟨rfl, rfl⟩))
    simp only [Act.put, List.setIfInBounds_toArray, List.set_cons_zero, List.set_cons_succ])
  refine fun w9 hC9 hK => ?_
  have h40 : isRow13 w.heap.size 5 (.slice (some ⟨g40, 0, none⟩) 5 5) w9 := hK 40 (by simp [more]) _ rfl
  obtain ⟨g', e, hgl, -, hrow⟩ := h40
  injection e with e
  injection e with e
  injection e with e
  subst e
  have HROW := hidIt hrow
  have HGL := hidIt hgl
  have HW9 := hidIt (HW8.out.read hC9.2.choose_spec hC9.1).lw
  clear hK hC9 hrow hgl X0 X1 x0 x1 lx CP HW8 HS8 HRW HOD HODL HRWL HTL HLL hsz8
  go_wp2_with fail
  go_loopw [11, 12, 42] (fun _ _ i wr => ∃ k : Nat, k ≤ 5 ∧ i = .int .i64 k ∧ Hid (Below w9.heap.size w9 wr)) (fun _ _ i _ => 5 - (intOf i).toNat)
  case atStart => exact ⟨0, by omega, (by first | rfl | trivial), Below.refl _ _⟩
  case round =>
    obtain ⟨k, hk, rfl, HB⟩ := hrel
    have hk0 : (0 : Int) ≤ (k : Int) := by omega
    have HWr := hidIt (HW9.out.go HB.out)
    by_cases hlt : k < 5
    · have hkI : (k : Int) < 5 := by omega
      obtain ⟨u, hcu, xa, xn, xc, x, rfl, hix, hxl⟩ := HROW.out k hlt
      have cu2 := (Below.cell (p := ⟨g40, k, none⟩) HB.out HGL.out).trans hcu
      have lo2 := Nat.lt_of_lt_of_le HGL.out HB.out.size
      have HI9 := hidIt hix.il
      have HXL := hidIt hxl
      clear hcu hix hxl
      have x0 := HWr.out.c0
      have x1 := HWr.out.c1
      have lx := HWr.out.l
      have HR9 : Hid (∀ w6 : World, Below wr.heap.size wr w6 → LW w G N ga gc ps w6 ∧ IL w6 (.slice xa xn xc) x) := fun w6 h => ⟨HWr.out.go h, (HI9.out.below HB.out).below h⟩
      have X0 : ∀ wx, Ext wr wx → wx.cell? ⟨G, 0, none⟩ = some (.int .i64 (N : Int)) := fun wx hC => (Below.cell (p := ⟨G, 0, none⟩) hC lx).trans x0
      have X1 : ∀ wx, Ext wr wx → wx.cell? ⟨G, 1, none⟩ = some (.slice ga ps.length gc) := fun wx hC => (Below.cell (p := ⟨G, 1, none⟩) hC lx).trans x1
      have C1 : Hid (∀ wx, Ext wr wx → Calls Tryd.prog 14 #[.agg #[.int .i64 (N : Int), .slice ga ps.length gc], .slice xa xn xc] wx fun e w'' => ∃ u, e = .returned u ∧ Ext wr w'' ∧ Grows wx w'' ∧ isB (setB N x) u w'') := fun wx hC => rel_call hC ((qValid_any N _ _ ps x wx (HR9.out wx hC).1.p HOK.out (by have := HPS.out; omega) (HR9.out wx hC).2 (by have := HXL.out; omega)).mono fun e w'' ⟨h1, h2⟩ => ⟨_, h1, rfl, h2⟩)
      have C2 : Hid (∀ wx, Ext wr wx → Calls Tryd.prog 15 #[.agg #[.int .i64 (N : Int), .slice ga ps.length gc], .slice xa xn xc] wx fun e w'' => ∃ u, e = .returned u ∧ Ext wr w'' ∧ Grows wx w'' ∧ isB (setB N x) u w'') := fun wx hC => rel_call hC ((raValid_any N _ _ ps x wx (HR9.out wx hC).1.p (HR9.out wx hC).2 (by have := HXL.out; omega)).mono fun e w'' ⟨h1, h2⟩ => ⟨_, h1, rfl, h2⟩)
      have C3 : Hid (∀ wx, Ext wr wx → Calls Tryd.prog 16 #[.agg #[.int .i64 (N : Int), .slice ga ps.length gc], .slice xa xn xc] wx fun e w'' => ∃ u, e = .returned u ∧ Ext wr w'' ∧ Grows wx w'' ∧ isB (setB N x && cfX ps (memB x)) u w'') := fun wx hC => rel_call hC ((qConflictFree_any N _ _ ps x wx (HR9.out wx hC).1.p HOK.out (by have := HPS.out; omega) (HR9.out wx hC).2 (by have := HXL.out; omega) (HR9.out wx hC).1.t).mono fun e w'' ⟨h1, h2⟩ => ⟨_, h1, rfl, h2⟩)
      have C4 : Hid (∀ wx, Ext wr wx → Calls Tryd.prog 17 #[.agg #[.int .i64 (N : Int), .slice ga ps.length gc], .slice xa xn xc] wx fun e w'' => ∃ u, e = .returned u ∧ Ext wr w'' ∧ Grows wx w'' ∧ isB (setB N x && cfX ps (memB x)) u w'') := fun wx hC => rel_call hC ((raConflictFree_any N _ _ ps x wx (HR9.out wx hC).1.p HOK.out (by have := HPS.out; omega) (HR9.out wx hC).2 (by have := HXL.out; omega)).mono fun e w'' ⟨h1, h2⟩ => ⟨_, h1, rfl, h2⟩)
      have C5 : Hid (∀ wx, Ext wr wx → Calls Tryd.prog 18 #[.agg #[.int .i64 (N : Int), .slice ga ps.length gc], .slice xa xn xc] wx fun e w'' => ∃ u, e = .returned u ∧ Ext wr w'' ∧ Grows wx w'' ∧ isB (setB N x && admX N ps (memB x)) u w'') := fun wx hC => rel_call hC ((qAdmissible_any N _ _ ps x wx (HR9.out wx hC).1.p HOK.out (by have := HPS.out; omega) (HR9.out wx hC).2 (by have := HXL.out; omega) (HR9.out wx hC).1.t).mono fun e w'' ⟨h1, h2⟩ => ⟨_, h1, rfl, h2⟩)
      have C6 : Hid (∀ wx, Ext wr wx → Calls Tryd.prog 19 #[.agg #[.int .i64 (N : Int), .slice ga ps.length gc], .slice xa xn xc] wx fun e w'' => ∃ u, e = .returned u ∧ Ext wr w'' ∧ Grows wx w'' ∧ isB (setB N x && admX N ps (memB x)) u w'') := fun wx hC => rel_call hC ((raAdmissible_any N _ _ ps x wx (HR9.out wx hC).1.p HOK.out HPS.out (HR9.out wx hC).2 (by have := HXL.out; omega)).mono fun e w'' ⟨h1, h2⟩ => ⟨_, h1, rfl, h2⟩)
      have C7 : Hid (∀ wx, Ext wr wx → Calls Tryd.prog 20 #[.agg #[.int .i64 (N : Int), .slice ga ps.length gc], .slice xa xn xc] wx fun e w'' => ∃ u, e = .returned u ∧ Ext wr w'' ∧ Grows wx w'' ∧ isB (setB N x && compX N ps (memB x)) u w'') := fun wx hC => rel_call hC ((qIsComplete_any N _ _ ps x wx (HR9.out wx hC).1.p HOK.out (by have := HPS.out; omega) (HR9.out wx hC).2 (by have := HXL.out; omega) (HR9.out wx hC).1.t).mono fun e w'' ⟨h1, h2⟩ => ⟨_, h1, rfl, h2⟩)
      have C8 : Hid (∀ wx, Ext wr wx → Calls Tryd.prog 21 #[.agg #[.int .i64 (N : Int), .slice ga ps.length gc], .slice xa xn xc] wx fun e w'' => ∃ u, e = .returned u ∧ Ext wr w'' ∧ Grows wx w'' ∧ isB (setB N x && compX N ps (memB x)) u w'') := fun wx hC => rel_call hC ((raIsComplete_any N _ _ ps x wx (HR9.out wx hC).1.p HOK.out HPS.out (HR9.out wx hC).2 (by have := HXL.out; omega)).mono fun e w'' ⟨h1, h2⟩ => ⟨_, h1, rfl, h2⟩)
      have C9 : Hid (∀ wx, Ext wr wx → Calls Tryd.prog 22 #[.agg #[.int .i64 (N : Int), .slice ga ps.length gc], .slice xa xn xc] wx fun e w'' => ∃ u, e = .returned u ∧ Ext wr w'' ∧ Grows wx w'' ∧ isB (setB N x && stabX N ps (memB x)) u w'') := fun wx hC => rel_call hC ((qIsStable_any N _ _ ps x wx (HR9.out wx hC).1.p HOK.out (by have := HPS.out; omega) (HR9.out wx hC).2 (by have := HXL.out; omega) (HR9.out wx hC).1.t).mono fun e w'' ⟨h1, h2⟩ => ⟨_, h1, rfl, h2⟩)
      have C10 : Hid (∀ wx, Ext wr wx → Calls Tryd.prog 23 #[.agg #[.int .i64 (N : Int), .slice ga ps.length gc], .slice xa xn xc] wx fun e w'' => ∃ u, e = .returned u ∧ Ext wr w'' ∧ Grows wx w'' ∧ isB (setB N x && stabX N ps (memB x)) u w'') := fun wx hC => rel_call hC ((raIsStable_any N _ _ ps x wx (HR9.out wx hC).1.p HOK.out HPS.out (HR9.out wx hC).2 (by have := HXL.out; omega)).mono fun e w'' ⟨h1, h2⟩ => ⟨_, h1, rfl, h2⟩)
      have C11 : Hid (∀ wx, Ext wr wx → Calls Tryd.prog 25 #[.agg #[.int .i64 (N : Int), .slice ga ps.length gc], .slice xa xn xc] wx fun e w'' => ∃ u, e = .returned u ∧ Ext wr w'' ∧ Grows wx w'' ∧ isIq13 (stepL N ps x).length (stepL N ps x) u w'') := fun wx hC => rel_call hC ((qStep_any N _ _ ps x wx (HR9.out wx hC).1.p HOK.out (by have := HPS.out; omega) (HR9.out wx hC).2 (by have := HXL.out; omega) (HR9.out wx hC).1.t).mono fun e w'' ⟨v, h1, h2, h3⟩ => ⟨_, h1, isIq13_of h2.il, h3⟩)
      have C13 : Hid (∀ wx, Ext wr wx → Calls Tryd.prog 27 #[.agg #[.int .i64 (N : Int), .slice ga ps.length gc], .slice xa xn xc] wx fun e w'' => ∃ u, e = .returned u ∧ Ext wr w'' ∧ Grows wx w'' ∧ isIq13 (rangeL N ps x).length (rangeL N ps x) u w'') := fun wx hC => rel_call hC ((qRange_any N _ _ ps x wx (HR9.out wx hC).1.p HOK.out (by have := HPS.out; omega) (HR9.out wx hC).2 (by have := HXL.out; omega) (HR9.out wx hC).1.t).mono fun e w'' ⟨v, h1, h2, h3⟩ => ⟨_, h1, isIq13_of h2.il, h3⟩)
      have C12 : Hid (∀ wx, Ext wr wx → Calls Tryd.prog 26 #[.agg #[.int .i64 (N : Int), .slice ga ps.length gc], .slice xa xn xc] wx fun e w'' => ∃ u, e = .returned u ∧ Ext wr w'' ∧ Grows wx w'' ∧ isIq13 (stepL N ps x).length (stepL N ps x) u w'') := fun wx hC => rel_call hC ((raStep_any N _ _ ps x wx (HR9.out wx hC).1.p HOK.out HPS.out (HR9.out wx hC).2 (by have := HXL.out; omega)).mono fun e w'' ⟨a, c, h1, h2, h3⟩ => ⟨_, h1, isIq13_of h2.il, h3⟩)
      have C14 : Hid (∀ wx, Ext wr wx → Calls Tryd.prog 28 #[.agg #[.int .i64 (N : Int), .slice ga ps.length gc], .slice xa xn xc] wx fun e w'' => ∃ u, e = .returned u ∧ Ext wr w'' ∧ Grows wx w'' ∧ isIq13 (rangeL N ps x).length (rangeL N ps x) u w'') := fun wx hC => rel_call hC ((raRange_any N _ _ ps x wx (HR9.out wx hC).1.p HOK.out HPS.out (HR9.out wx hC).2 (by have := HXL.out; omega)).mono fun e w'' ⟨a, c, h1, h2, h3⟩ => ⟨_, h1, isIq13_of h2.il, h3⟩)
      have HS1 := hidIt (stepL_len N ps x)
      have HS2 := hidIt (rangeL_len N ps x)
      generalize stepL N ps x = st at *
      generalize rangeL N ps x = rg at *
      have CI : Hid (∀ (l : List Int) wx a1 c1 a2 c2, l.length ≤ N → Ext wr wx → IL wx (.slice a1 l.length c1) l → IL wx (.slice a2 l.length c2) l → Calls Tryd.prog 24 #[.slice a1 l.length c1, .slice a2 l.length c2] wx fun e w'' => ∃ u, e = .returned u ∧ Ext wr w'' ∧ Grows wx w'' ∧ isB true u w'') := fun l wx a1 c1 a2 c2 hl hC h1 h2 => rel_call hC ((kInts_any _ _ l l wx h1 h2 (by omega) (by omega)).mono fun e w'' ⟨h3, h4⟩ => ⟨_, h3, (by rw [decide_eq_true rfl]; rfl), h4⟩)
      generalize (setB N x && cfX ps (memB x)) = b1 at *
      generalize (setB N x && admX N ps (memB x)) = b2 at *
      generalize (setB N x && compX N ps (memB x)) = b3 at *
      generalize (setB N x && stabX N ps (memB x)) = b4 at *
      generalize hsv : setB N x = sv at *
      have HSV := hidIt hsv
      clear hsv
      go_wp2_with fail
      haveI := Ext.nonempty wr
      refine wp_region_rel (Ext wr) Grows (relTab [(48, isB sv), (51, isB sv), (56, isB b1), (59, isB b1), (65, isB b2), (68, isB b2), (74, isB b3), (77, isB b3), (83, isB b4), (86, isB b4), (92, isIq13 st.length st), (95, isIq13 st.length st), (96, isB true), (102, isIq13 rg.length rg), (105, isIq13 rg.length rg), (106, isB true)]) (by kernel_rfl) (by kernel_rfl) (by kernel_rfl) (stable_cons (isB_up _) (stable_cons (isB_up _) (stable_cons (isB_up _) (stable_cons (isB_up _) (stable_cons (isB_up _) (stable_cons (isB_up _) (stable_cons (isB_up _) (stable_cons (isB_up _) (stable_cons (isB_up _) (stable_cons (isB_up _) (stable_cons (isIq13_up _ _) (stable_cons (isIq13_up _ _) (stable_cons (isB_up _) (stable_cons (isIq13_up _ _) (stable_cons (isIq13_up _ _) (stable_cons (isB_up _) (stable_nil _))))))))))))))))) (Ext.start wr) ?_
      repeat (
        refine' walkR_plain (by kernel_rfl) rfl rfl (fun wx hC hL => ?_) ?_
        rotate_left
        · (have hls := Below.size hC
           have hllx := Nat.lt_of_lt_of_le lx hls
           simp only [X0 wx hC, X1 wx hC, hllx, bne_self_eq_false, go_sem]; first | done | (go_simp; exact ⟨rfl, rfl⟩))
        simp only [Act.put, List.setIfInBounds_toArray, List.set_cons_zero, List.set_cons_succ])
      refine walkR_rel (by kernel_rfl) rfl rfl (of_decide_eq_true (by kernel_rfl)) (fun wx hC hL => ?_) (fun v hv => ?_)
      · go_simp
        exact C1.out wx hC
      obtain ⟨_, _, rfl⟩ := hv
      simp only [Act.put, List.setIfInBounds_toArray, List.set_cons_zero, List.set_cons_succ]
      repeat (
        refine' walkR_plain (by kernel_rfl) rfl rfl (fun wx hC hL => ?_) ?_
        rotate_left
        · (have hls := Below.size hC
           have hllx := Nat.lt_of_lt_of_le lx hls
           simp only [X0 wx hC, X1 wx hC, hllx, bne_self_eq_false, go_sem]; first | done | (go_simp; exact ⟨rfl, rfl⟩))
        simp only [Act.put, List.setIfInBounds_toArray, List.set_cons_zero, List.set_cons_succ])
      refine walkR_rel (by kernel_rfl) rfl rfl (of_decide_eq_true (by kernel_rfl)) (fun wx hC hL => ?_) (fun v hv => ?_)
      · go_simp
        exact C2.out wx hC
      obtain ⟨_, _, rfl⟩ := hv
      simp only [Act.put, List.setIfInBounds_toArray, List.set_cons_zero, List.set_cons_succ]
      repeat (
        refine' walkR_plain (by kernel_rfl) rfl rfl (fun wx hC hL => ?_) ?_
        rotate_left
        · (have hls := Below.size hC
           have hllx := Nat.lt_of_lt_of_le lx hls
           simp only [X0 wx hC, X1 wx hC, hllx, bne_self_eq_false, go_sem]; first | done | (go_simp; exact ⟨rfl, rfl⟩))
        simp only [Act.put, List.setIfInBounds_toArray, List.set_cons_zero, List.set_cons_succ])
      refine walkR_rel (by kernel_rfl) rfl rfl (of_decide_eq_true (by kernel_rfl)) (fun wx hC hL => ?_) (fun v hv => ?_)
      · go_simp
        exact C3.out wx hC
      obtain ⟨_, _, rfl⟩ := hv
      simp only [Act.put, List.setIfInBounds_toArray, List.set_cons_zero, List.set_cons_succ]
      repeat (
        refine' walkR_plain (by kernel_rfl) rfl rfl (fun wx hC hL => ?_) ?_
        rotate_left
        · (have hls := Below.size hC
           have hllx := Nat.lt_of_lt_of_le lx hls
           simp only [X0 wx hC, X1 wx hC, hllx, bne_self_eq_false, go_sem]; first | done | (go_simp; exact ⟨rfl, rfl⟩))
        simp only [Act.put, List.setIfInBounds_toArray, List.set_cons_zero, List.set_cons_succ])
      refine walkR_rel (by kernel_rfl) rfl rfl (of_decide_eq_true (by kernel_rfl)) (fun wx hC hL => ?_) (fun v hv => ?_)
      · go_simp
        exact C4.out wx hC
      obtain ⟨_, _, rfl⟩ := hv
      simp only [Act.put, List.setIfInBounds_toArray, List.set_cons_zero, List.set_cons_succ]
      repeat (
        refine' walkR_plain (by kernel_rfl) rfl rfl (fun wx hC hL => ?_) ?_
        rotate_left
        · (have hls := Below.size hC
           have hllx := Nat.lt_of_lt_of_le lx hls
           simp only [X0 wx hC, X1 wx hC, hllx, bne_self_eq_false, go_sem]; first | done | (go_simp; exact ⟨rfl, rfl⟩))
        simp only [Act.put, List.setIfInBounds_toArray, List.set_cons_zero, List.set_cons_succ])
      refine walkR_rel (by kernel_rfl) rfl rfl (of_decide_eq_true (by kernel_rfl)) (fun wx hC hL => ?_) (fun v hv => ?_)
      · go_simp
        exact C5.out wx hC
      obtain ⟨_, _, rfl⟩ := hv
      simp only [Act.put, List.setIfInBounds_toArray, List.set_cons_zero, List.set_cons_succ]
      repeat (
        refine' walkR_plain (by kernel_rfl) rfl rfl (fun wx hC hL => ?_) ?_
        rotate_left
        · (have hls := Below.size hC
           have hllx := Nat.lt_of_lt_of_le lx hls
           simp only [X0 wx hC, X1 wx hC, hllx, bne_self_eq_false, go_sem]; first | done | (go_simp; exact ⟨rfl, rfl⟩))
        simp only [Act.put, List.setIfInBounds_toArray, List.set_cons_zero, List.set_cons_succ])
      refine walkR_rel (by kernel_rfl) rfl rfl (of_decide_eq_true (by kernel_rfl)) (fun wx hC hL => ?_) (fun v hv => ?_)
      · go_simp
        exact C6.out wx hC
      obtain ⟨_, _, rfl⟩ := hv
      simp only [Act.put, List.setIfInBounds_toArray, List.set_cons_zero, List.set_cons_succ]
      repeat (
        refine' walkR_plain (by kernel_rfl) rfl rfl (fun wx hC hL => ?_) ?_
        rotate_left
        · (have hls := Below.size hC
           have hllx := Nat.lt_of_lt_of_le lx hls
           simp only [X0 wx hC, X1 wx hC, hllx, bne_self_eq_false, go_sem]; first | done | (go_simp; exact ⟨rfl, rfl⟩))
        simp only [Act.put, List.setIfInBounds_toArray, List.set_cons_zero, List.set_cons_succ])
      refine walkR_rel (by kernel_rfl) rfl rfl (of_decide_eq_true (by kernel_rfl)) (fun wx hC hL => ?_) (fun v hv => ?_)
      · go_simp
        exact C7.out wx hC
      obtain ⟨_, _, rfl⟩ := hv
      simp only [Act.put, List.setIfInBounds_toArray, List.set_cons_zero, List.set_cons_succ]
      repeat (
        refine' walkR_plain (by kernel_rfl) rfl rfl (fun wx hC hL => ?_) ?_
        rotate_left
        · (have hls := Below.size hC
           have hllx := Nat.lt_of_lt_of_le lx hls
           simp only [X0 wx hC, X1 wx hC, hllx, bne_self_eq_false, go_sem]; first | done | (go_simp; exact ⟨rfl, rfl⟩))
        simp only [Act.put, List.setIfInBounds_toArray, List.set_cons_zero, List.set_cons_succ])
      refine walkR_rel (by kernel_rfl) rfl rfl (of_decide_eq_true (by kernel_rfl)) (fun wx hC hL => ?_) (fun v hv => ?_)
      · go_simp
        exact C8.out wx hC
      obtain ⟨_, _, rfl⟩ := hv
      simp only [Act.put, List.setIfInBounds_toArray, List.set_cons_zero, List.set_cons_succ]
      repeat (
        refine' walkR_plain (by kernel_rfl) rfl rfl (fun wx hC hL => ?_) ?_
        rotate_left
        · (have hls := Below.size hC
           have hllx := Nat.lt_of_lt_of_le lx hls
           simp only [X0 wx hC, X1 wx hC, hllx, bne_self_eq_false, go_sem]; first | done | (go_simp; exact ⟨rfl, rfl⟩))
        simp only [Act.put, List.setIfInBounds_toArray, List.set_cons_zero, List.set_cons_succ])
      refine walkR_rel (by kernel_rfl) rfl rfl (of_decide_eq_true (by kernel_rfl)) (fun wx hC hL => ?_) (fun v hv => ?_)
      · go_simp
        exact C9.out wx hC
      obtain ⟨_, _, rfl⟩ := hv
      simp only [Act.put, List.setIfInBounds_toArray, List.set_cons_zero, List.set_cons_succ]
      repeat (
        refine' walkR_plain (by kernel_rfl) rfl rfl (fun wx hC hL => ?_) ?_
        rotate_left
        · (have hls := Below.size hC
           have hllx := Nat.lt_of_lt_of_le lx hls
           simp only [X0 wx hC, X1 wx hC, hllx, bne_self_eq_false, go_sem]; first | done | (go_simp; exact ⟨rfl, rfl⟩))
        simp only [Act.put, List.setIfInBounds_toArray, List.set_cons_zero, List.set_cons_succ])
      refine walkR_rel (by kernel_rfl) rfl rfl (of_decide_eq_true (by kernel_rfl)) (fun wx hC hL => ?_) (fun v hv => ?_)
      · go_simp
        exact C10.out wx hC
      obtain ⟨_, _, rfl⟩ := hv
      simp only [Act.put, List.setIfInBounds_toArray, List.set_cons_zero, List.set_cons_succ]
      repeat (
        refine' walkR_plain (by kernel_rfl) rfl rfl (fun wx hC hL => ?_) ?_
        rotate_left
        · (have hls := Below.size hC
           have hllx := Nat.lt_of_lt_of_le lx hls
           simp only [X0 wx hC, X1 wx hC, hllx, bne_self_eq_false, go_sem]; first | done | (go_simp; exact ⟨rfl, rfl⟩))
        simp only [Act.put, List.setIfInBounds_toArray, List.set_cons_zero, List.set_cons_succ])
      refine walkR_rel (by kernel_rfl) rfl rfl (of_decide_eq_true (by kernel_rfl)) (fun wx hC hL => ?_) (fun v hv => ?_)
      · go_simp
        exact C11.out wx hC
      obtain ⟨_, _, a92, c92, rfl, -⟩ := hv
      simp only [Act.put, List.setIfInBounds_toArray, List.set_cons_zero, List.set_cons_succ]
      repeat (
        refine' walkR_plain (by kernel_rfl) rfl rfl (fun wx hC hL => ?_) ?_
        rotate_left
        · (have hls := Below.size hC
           have hllx := Nat.lt_of_lt_of_le lx hls
           simp only [X0 wx hC, X1 wx hC, hllx, bne_self_eq_false, go_sem]; first | done | (go_simp; exact ⟨rfl, rfl⟩))
        simp only [Act.put, List.setIfInBounds_toArray, List.set_cons_zero, List.set_cons_succ])
      refine walkR_rel (by kernel_rfl) rfl rfl (of_decide_eq_true (by kernel_rfl)) (fun wx hC hL => ?_) (fun v hv => ?_)
      · go_simp
        exact C12.out wx hC
      obtain ⟨_, _, a95, c95, rfl, -⟩ := hv
      simp only [Act.put, List.setIfInBounds_toArray, List.set_cons_zero, List.set_cons_succ]
      repeat (
        refine' walkR_plain (by kernel_rfl) rfl rfl (fun wx hC hL => ?_) ?_
        rotate_left
        · (have hls := Below.size hC
           have hllx := Nat.lt_of_lt_of_le lx hls
           simp only [X0 wx hC, X1 wx hC, hllx, bne_self_eq_false, go_sem]; first | done | (go_simp; exact ⟨rfl, rfl⟩))
        simp only [Act.put, List.setIfInBounds_toArray, List.set_cons_zero, List.set_cons_succ])
      refine walkR_rel (by kernel_rfl) rfl rfl (of_decide_eq_true (by kernel_rfl)) (fun wx hC hL => ?_) (fun v hv => ?_)
      · have k92 := hidIt (isIq13_use (hL.get 92 (by simp [more]) (by kernel_rfl) rfl rfl))
        have k95 := hidIt (isIq13_use (hL.get 95 (by simp [more]) (by kernel_rfl) rfl rfl))
        go_simp
        exact CI.out st wx a92 c92 a95 c95 HS1.out hC k92.out k95.out
      obtain ⟨_, _, rfl⟩ := hv
      simp only [Act.put, List.setIfInBounds_toArray, List.set_cons_zero, List.set_cons_succ]
      repeat (
        refine' walkR_plain (by kernel_rfl) rfl rfl (fun wx hC hL => ?_) ?_
        rotate_left
        · (have hls := Below.size hC
           have hllx := Nat.lt_of_lt_of_le lx hls
           simp only [X0 wx hC, X1 wx hC, hllx, bne_self_eq_false, go_sem]; first | done | (go_simp; exact ⟨rfl, rfl⟩))
        simp only [Act.put, List.setIfInBounds_toArray, List.set_cons_zero, List.set_cons_succ])
      refine walkR_rel (by kernel_rfl) rfl rfl (of_decide_eq_true (by kernel_rfl)) (fun wx hC hL => ?_) (fun v hv => ?_)
      · go_simp
        exact C13.out wx hC
      obtain ⟨_, _, a102, c102, rfl, -⟩ := hv
      simp only [Act.put, List.setIfInBounds_toArray, List.set_cons_zero, List.set_cons_succ]
      repeat (
        refine' walkR_plain (by kernel_rfl) rfl rfl (fun wx hC hL => ?_) ?_
        rotate_left
        · (have hls := Below.size hC
           have hllx := Nat.lt_of_lt_of_le lx hls
           simp only [X0 wx hC, X1 wx hC, hllx, bne_self_eq_false, go_sem]; first | done | (go_simp; exact ⟨rfl, rfl⟩))
        simp only [Act.put, List.setIfInBounds_toArray, List.set_cons_zero, List.set_cons_succ])
      refine walkR_rel (by kernel_rfl) rfl rfl (of_decide_eq_true (by kernel_rfl)) (fun wx hC hL => ?_) (fun v hv => ?_)
      · go_simp
        exact C14.out wx hC
      obtain ⟨_, _, a105, c105, rfl, -⟩ := hv
      simp only [Act.put, List.setIfInBounds_toArray, List.set_cons_zero, List.set_cons_succ]
      repeat (
        refine' walkR_plain (by kernel_rfl) rfl rfl (fun wx hC hL => ?_) ?_
        rotate_left
        · (have hls := Below.size hC
           have hllx := Nat.lt_of_lt_of_le lx hls
           simp only [X0 wx hC, X1 wx hC, hllx, bne_self_eq_false, go_sem]; first | done | (go_simp; exact ⟨rfl, rfl⟩))
        simp only [Act.put, List.setIfInBounds_toArray, List.set_cons_zero, List.set_cons_succ])
      refine walkR_rel (by kernel_rfl) rfl rfl (of_decide_eq_true (by kernel_rfl)) (fun wx hC hL => ?_) (fun v hv => ?_)
      · have k102 := hidIt (isIq13_use (hL.get 102 (by simp [more]) (by kernel_rfl) rfl rfl))
        have k105 := hidIt (isIq13_use (hL.get 105 (by simp [more]) (by kernel_rfl) rfl rfl))
        go_simp
        exact CI.out rg wx a102 c102 a105 c105 HS2.out hC k102.out k105.out
      obtain ⟨_, _, rfl⟩ := hv
      simp only [Act.put, List.setIfInBounds_toArray, List.set_cons_zero, List.set_cons_succ]
      repeat (
        refine' walkR_plain (by kernel_rfl) rfl rfl (fun wx hC hL => ?_) ?_
        rotate_left
        · (have hls := Below.size hC
           have hllx := Nat.lt_of_lt_of_le lx hls
           simp only [X0 wx hC, X1 wx hC, hllx, bne_self_eq_false, go_sem]; first | done | (go_simp; exact ⟨rfl, rfl⟩))
        simp only [Act.put, List.setIfInBounds_toArray, List.set_cons_zero, List.set_cons_succ])
      refine fun wa hCa hK => ?_
      have HBa := hidIt (HB.out.trans (Below.mono (show Below wr.heap.size wr wa from hCa) HB.out.size))
      clear hK hCa X0 X1 x0 x1 lx C1 C2 C3 C4 C5 C6 C7 C8 C9 C10 C11 C12 C13 C14 CI HR9 HB HWr cu2 lo2
      go_wp2_with fail
      go_loopw [12] (fun v12 wr => ∃ I : Int, -1 ≤ I ∧ I ≤ (N : Int) + 1 ∧ v12 = .int .i64 I ∧ Hid (Below w9.heap.size w9 wr)) (fun v12 _ => ((N : Int) + 1 - intOf v12).toNat)
      case atStart => exact ⟨-1, by omega, by omega, (by first | rfl | trivial), HBa.out⟩
      case round =>
        clear HBa
        obtain ⟨I, hI1, hI2, rfl, HB⟩ := hrel
        have HWr := hidIt (HW9.out.go HB.out)
        have HIr := hidIt (HI9.out.below HB.out)
        have x0 := HWr.out.c0
        have x1 := HWr.out.c1
        have lx := HWr.out.l
        by_cases hIN : I ≤ (N : Int)
        · have hwI : IntKind.i64.wrap (I + 1) = I + 1 := IntWalk.i64_in _ (by omega)
          have HR9 : Hid (∀ w6 : World, Below wr.heap.size wr w6 → LW w G N ga gc ps w6 ∧ IL w6 (.slice xa xn xc) x) := fun w6 h => ⟨HWr.out.go h, HIr.out.below h⟩
          obtain ⟨D, hD⟩ : ∃ D, D = (setB N x && (ixB I (N : Int) && dfX ps (memB x) I.toNat)) := ⟨_, rfl⟩
          have HCA : Hid (∀ wx : World, Ext wr wx → Calls Tryd.prog 29 #[.agg #[.int .i64 (N : Int), .slice ga ps.length gc], .slice xa xn xc, .int .i64 I] wx fun e w' => e = .returned (.bool D) ∧ Below wx.heap.size wx w') := fun wx hC => by
            rw [hD]
            exact qDefends_any N _ _ ps x I wx (HR9.out wx hC).1.p HOK.out (by have := HPS.out; omega) (HR9.out wx hC).2 (by have := HXL.out; omega) (HR9.out wx hC).1.t
          have HCB : Hid (∀ wx : World, Ext wr wx → Calls Tryd.prog 30 #[.agg #[.int .i64 (N : Int), .slice ga ps.length gc], .slice xa xn xc, .int .i64 I] wx fun e w' => e = .returned (.bool D) ∧ Below wx.heap.size wx w') := fun wx hC => by
            rw [hD]
            exact raDefends_any N _ _ ps x I wx (HR9.out wx hC).1.p HOK.out HPS.out (HR9.out wx hC).2 (by have := HXL.out; omega)
          have hDD : (D != D) = false := bne_self_eq_false D
          clear hD
          have X0 := fun y => Ext.cell x0 y
          have X1 := fun y => Ext.cell x1 y
          have LX := fun y : In (Ext wr) => Nat.lt_of_lt_of_le lx (Below.size y.h)
          go_wp2_with fail
          haveI := Ext.nonempty wr
          refine wp_region_in (Ext wr) (by kernel_rfl) (by kernel_rfl) (Ext.start wr) ?_
          repeat (go_big_quiet_step (first | (go_at_call 29; refine Ext.call (HCA.out _ (In.h _))) | (go_at_call 30; refine Ext.call (HCB.out _ (In.h _)))))
          refine wpQuiet_nil ?_
          rintro wq ⟨⟨_, hq⟩, rfl⟩
          have HBq := hidIt (HB.out.trans (Below.mono (show Below wr.heap.size wr _ from hq) HB.out.size))
          clear hq X0 X1 LX x0 x1 lx HCA HCB HR9
          go_wp2_with fail
          go_roundw
          case rel => exact ⟨I + 1, by omega, by omega, (by first | rfl | trivial | (rw [hwI])), HBq.out⟩
          case measure => simp [intOf]; omega
        · have hIn : ¬ I ≤ (N : Int) := hIN
          have HR9 : Hid (∀ w6 : World, Below wr.heap.size wr w6 → LW w G N ga gc ps w6 ∧ IL w6 (.slice xa xn xc) x) := fun w6 h => ⟨HWr.out.go h, HIr.out.below h⟩
          obtain ⟨D, hD⟩ : ∃ D, D = (setB N x && (ixB n1 (N : Int) && dfX ps (memB x) n1.toNat)) := ⟨_, rfl⟩
          have HCA : Hid (∀ wx : World, Ext wr wx → Calls Tryd.prog 29 #[.agg #[.int .i64 (N : Int), .slice ga ps.length gc], .slice xa xn xc, .int .i64 n1] wx fun e w' => e = .returned (.bool D) ∧ Below wx.heap.size wx w') := fun wx hC => by
            rw [hD]
            exact qDefends_any N _ _ ps x n1 wx (HR9.out wx hC).1.p HOK.out (by have := HPS.out; omega) (HR9.out wx hC).2 (by have := HXL.out; omega) (HR9.out wx hC).1.t
          have HCB : Hid (∀ wx : World, Ext wr wx → Calls Tryd.prog 30 #[.agg #[.int .i64 (N : Int), .slice ga ps.length gc], .slice xa xn xc, .int .i64 n1] wx fun e w' => e = .returned (.bool D) ∧ Below wx.heap.size wx w') := fun wx hC => by
            rw [hD]
            exact raDefends_any N _ _ ps x n1 wx (HR9.out wx hC).1.p HOK.out HPS.out (HR9.out wx hC).2 (by have := HXL.out; omega)
          have hDD : (D != D) = false := bne_self_eq_false D
          clear hD
          have X0 := fun y => Ext.cell x0 y
          have X1 := fun y => Ext.cell x1 y
          have LX := fun y : In (Ext wr) => Nat.lt_of_lt_of_le lx (Below.size y.h)
          go_wp2_with fail
          haveI := Ext.nonempty wr
          refine wp_region_in (Ext wr) (by kernel_rfl) (by kernel_rfl) (Ext.start wr) ?_
          repeat (go_big_quiet_step (first | (go_at_call 29; refine Ext.call (HCA.out _ (In.h _))) | (go_at_call 30; refine Ext.call (HCB.out _ (In.h _)))))
          refine wpQuiet_nil ?_
          rintro wq ⟨⟨_, hq⟩, rfl⟩
          have HBq := hidIt (HB.out.trans (Below.mono (show Below wr.heap.size wr _ from hq) HB.out.size))
          clear hq X0 X1 LX x0 x1 lx HCA HCB HR9
          go_wp2_with fail
          go_roundw
          case rel => exact ⟨k + 1, by omega, by go_num, HBq.out⟩
          case measure => simp [intOf]; omega
    · obtain rfl : k = 5 := by omega
      have hkI : ¬ ((5 : Nat) : Int) < 5 := by decide
      go_wp2_with fail
      refine (awake13_any _ HWr.out.t).mono ?_
      rintro e w30 ⟨rfl, hb⟩
      have HBF := hidIt (HWr.out.b.trans (Below.mono hb HWr.out.b.size))
      clear hb
      go_wp2_with fail
      go_ret
      exact ⟨rfl, HBF.out⟩
end Go.Proofs.YtihmdnbeonefcaaDoor
