/- The law GraphInduces: for every list of numbers it answers true. A graph beside a reader; the characteristic function and its least fixed point. Lists that no reader turns; five of them in a row. What Grow and Shrink return is least, and greatest. append: of one number to a list without room, of a list to an empty one; relations on lists for regions that draw their order. The reference's Grow and Shrink. The reference's Greedy: some short list. The law AdmissibleGrows: for any list and every list of numbers it answers true. -/
import Derived.Test.YtihmdnbeonefcaaDoorG1I
import Derived.Test.YtihmdnbeonefcaaDoorNew
import Derived.Test.YtihmdnbeonefcaaDoorZ4N1M
import Derived.Test.YtihmdnbeonefcaaDoorZ4M1I
import Derived.Test.YtihmdnbeonefcaaDoorZ4B
import Derived.ArgAppend
import Derived.Deep.RegionLaw
import Derived.Test.YtihmdnbeonefcaaDoorZ4N1G

namespace Go.Proofs.YtihmdnbeonefcaaDoor
set_option linter.unusedVariables false
set_option linter.unusedSimpArgs false
open Go Go.RowKit Go.Sort

theorem OwnPairs.read {w w' : World} {B b : Nat} {v : Value} {xs : List (Int × Int)} (h : OwnPairs w B v xs) (hg : w.grownBy w' (some b)) (hb : b < B) : OwnPairs w' B v xs := by
  rcases h with h | ⟨g, cap, h1, h2, h3, h4, h5, h6⟩
  · exact .inl h
  · have hk : w'.heap[g]? = w.heap[g]? := hg.block g h5 (fun e => by injection e with e; omega)
    exact .inr ⟨g, cap, h1, h2, h3, h4, Nat.lt_of_lt_of_le h5 hg.size, holds_block h6 hk⟩
theorem OwnI.read {w w' : World} {B b : Nat} {v : Value} {zs : List Int} (h : OwnI w B v zs) (hg : w.grownBy w' (some b)) (hb : b < B) : OwnI w' B v zs :=
  owns_kept h fun g e => hg.block g (owns_blk h g e).2 (fun e2 => by injection e2 with e2; have := (owns_blk h g e).1; omega)
theorem blk_read {w w' : World} {b g : Nat} {o : Obj} (h : w.heap[g]? = some o) (hg : w.grownBy w' (some b)) (hne : g ≠ b) : w'.heap[g]? = some o :=
  (hg.block g (lt_of_block h) (fun e => hne (by first | exact Option.some.inj e | exact (Option.some.inj e).symm))).trans h
theorem below_read {w a a' : World} {b : Nat} (h : Below b w a) (hg : a.grownBy a' (some b)) (hna : b ≤ a.heap.size) : Below b w a' := below_app5 h hg (fun g e => by injection e with e; omega) hna
end Go.Proofs.YtihmdnbeonefcaaDoor

namespace Go.Proofs.YtihmdnbeonefcaaDoor
set_option linter.unusedVariables false
set_option linter.unusedSimpArgs false
open Go Go.RowKit Go.Sort

theorem isIq13_of {w : World} {v : Value} {xs : List Int} (h : IL w v xs) : isIq13 xs.length xs v w := by
  obtain ⟨a, c, rfl, -⟩ := h.form
  exact ⟨a, c, rfl, h⟩
/-- The law's graph in its box, a reader of numbers, the library's table. -/
structure LR (w0 : World) (G N : Nat) (a : Option Addr) (c : Nat) (ps : List (Int × Int)) (zs : List Int) (w : World) : Prop where
  x : w.heap[G]? = some (.cells #[.int .i64 (N : Int), .slice a ps.length c] 27 (0, 0))
  o : OwnPairs w (w0.heap.size + 1) (.slice a ps.length c) ps
  s : ∃ k, SrcAt w w0.heap.size w0.heap.size zs k
  t : Tab w0
  b : Below w0.heap.size w0 w
  g : w0.heap.size < G
section
variable {w0 : World} {G N : Nat} {a : Option Addr} {c : Nat} {ps : List (Int × Int)} {zs : List Int} {w w' : World}
theorem LR.l (h : LR w0 G N a c ps zs w) : G < w.heap.size := lt_of_block h.x
theorem LR.c0 (h : LR w0 G N a c ps zs w) : w.cell? ⟨G, 0, none⟩ = some (.int .i64 (N : Int)) := cell_two0 h.x
theorem LR.c1 (h : LR w0 G N a c ps zs w) : w.cell? ⟨G, 1, none⟩ = some (.slice a ps.length c) := cell_two1 h.x
theorem LR.sz (h : LR w0 G N a c ps zs w) : w0.heap.size < w.heap.size := Nat.lt_trans h.g h.l
theorem LR.go (h : LR w0 G N a c ps zs w) (hb : Below w.heap.size w w') : LR w0 G N a c ps zs w' := by
  obtain ⟨k, hk⟩ := h.s
  exact ⟨blk_kept2 h.x hb, h.o.below hb, ⟨k, hk.grow (only_of_below hb none)⟩, h.t, h.b.trans (Below.mono hb h.b.size), h.g⟩
theorem LR.read (h : LR w0 G N a c ps zs w) {k : Nat} (hs : SrcAt w' w0.heap.size w0.heap.size zs k) (hg : w.grownBy w' (some w0.heap.size)) : LR w0 G N a c ps zs w' :=
  ⟨blk_read h.x hg (by have := h.g; omega), h.o.read hg (by omega), ⟨k, hs⟩, h.t, below_read h.b hg (Nat.le_of_lt h.sz), h.g⟩
/-- The same where blocks beyond the graph's may have turned, too. -/
theorem LR.lw (h : LR w0 G N a c ps zs w) : LW w0 G N a c ps w := ⟨h.x, h.o.lits, h.t.go h.b, h.b⟩
end

theorem asc_setB {N : Nat} {l : List Nat} (h : Asc N l) : setB N (ints l) = true := by
  refine setB_iff.2 ⟨fun z hz => ?_, ?_⟩
  · unfold ints at hz
    obtain ⟨i, hi, rfl⟩ := List.mem_map.1 hz
    have := h.lt i hi
    show (0 : Int) ≤ (i : Int) ∧ (i : Int) < _
    omega
  · unfold ints
    rw [List.pairwise_map]
    exact h.up.imp fun h => Int.ofNat_lt.2 h
theorem setTo_upd {F : Nat → Bool} {k : Nat} (v : Bool) : setTo (fun j => if j = k then v else F j) (k + 1) = setTo F k ++ if v = true then [k] else [] := by
  rw [setTo_step]
  rw [if_pos rfl]
  congr 1
  unfold setTo
  apply List.filter_congr
  intro i hi
  have := List.mem_range.1 hi
  rw [if_neg (by omega)]
section
variable {N : Nat} {ps : List (Int × Int)} (hix : ∀ p ∈ ps, (0 ≤ p.1 ∧ p.1 < (N : Int)) ∧ (0 ≤ p.2 ∧ p.2 < (N : Int)))
include hix
theorem mono_one {x y : List Int} (hx : setB N x = true) (hy : setB N y = true) (h : ∀ i, i < N → memB x i = true → memB y i = true) : subL (stepL N ps x) (stepL N ps y) = true := by
  rw [stepL_of hx, stepL_of hy, subL_set, subX_iff]
  exact fun i _ hd => dfX_mono hix h hd
omit hix in
theorem inn_least {lab rk : List Int} (h : GSpec N ps lab rk) : ints (withF lab 1) = setL N fun i => decide (lab.getD i 0 = 1) := by
  unfold withF setL
  rw [h.ll]
  congr 1
  apply List.filter_congr
  intro i hi
  have hi := List.mem_range.1 hi
  have hl : i < lab.length := by rw [h.ll]; exact hi
  rw [getD_at hl, List.getElem?_eq_getElem hl]
  simp
theorem step_least {lab rk : List Int} (h : GSpec N ps lab rk) : stepL N ps (setL N fun i => decide (lab.getD i 0 = 1)) = setL N fun i => decide (lab.getD i 0 = 1) := by
  rw [step_set hix]
  have hc := h.complete
  refine setL_congr fun i hi => ?_
  rw [Bool.eq_iff_iff, dfX_iff hix, decide_eq_true_eq, hc.one i hi]
  constructor
  · intro hd k hk
    obtain ⟨m, hm, hx⟩ := hd k hk
    exact (hc.two k (at_lt hix hk).1).2 ⟨m, hm, of_decide_eq_true hx⟩
  · intro hd k hk
    obtain ⟨m, hm, hx⟩ := (hc.two k (at_lt hix hk).1).1 (hd k hk)
    exact ⟨m, hm, decide_eq_true hx⟩
theorem least_in {lab rk x : List Int} (h : GSpec N ps lab rk) (hs : setB N x = true) (hx : stepL N ps x = x) : subL (setL N fun i => decide (lab.getD i 0 = 1)) x = true := by
  have hfix : ∀ i, i < N → dfX ps (memB x) i = true → memB x i = true := by
    rw [stepL_of hs] at hx
    intro i hi hd
    rw [← hx, memB_setL, decide_eq_true hi, Bool.true_and]
    exact hd
  have key : ∀ (m : Nat) (i : Nat), i < N → (rk.getD i 0).toNat ≤ m → lab.getD i 0 = 1 → memB x i = true := by
    intro m
    induction m with
    | zero => intro i hi hm e; have := (h.inn i hi e).1; omega
    | succ m ih =>
      intro i hi hm e
      obtain ⟨g1, g2, -⟩ := h.inn i hi e
      refine hfix i hi ((dfX_iff hix).2 fun k hk => ?_)
      obtain ⟨e1, e2⟩ := g2 k hk
      obtain ⟨-, ⟨j, hj, ej, rj⟩, -⟩ := h.out k (at_lt hix hk).1 e1
      exact ⟨j, hj, ih j (at_lt hix hj).1 (by omega) ej⟩
  conv => lhs; arg 2; rw [setB_eq hs]
  rw [subL_set, subX_iff]
  exact fun i hi e => key _ i hi (Nat.le_refl _) (of_decide_eq_true e)
end
end Go.Proofs.YtihmdnbeonefcaaDoor

namespace Go.Proofs.YtihmdnbeonefcaaDoor
set_option linter.unusedVariables false
set_option linter.unusedSimpArgs false
open Go Go.RowKit Go.Sort

/-- A list that does not lie in the block b. -/
def ILn (b : Nat) (w : World) (v : Value) (zs : List Int) : Prop := (v = .slice none 0 0 ∧ zs = []) ∨
  ∃ (g off cap : Nat), v = .slice (some ⟨g, off, none⟩) zs.length cap ∧ zs.length ≤ cap ∧ cap ≤ maxLen ∧ g < w.heap.size ∧ g ≠ b ∧ ∀ i (h : i < zs.length), w.cell? ⟨g, off + i, none⟩ = some (.int .i64 zs[i])
theorem ILn.nil (b : Nat) (w : World) : ILn b w (.slice none 0 0) [] := .inl ⟨rfl, rfl⟩
theorem ILn.il {b : Nat} {w : World} {v : Value} {zs : List Int} (h : ILn b w v zs) : IL w v zs := by
  rcases h with h | ⟨g, off, cap, h1, h2, h3, h4, -, h6⟩
  · exact .inl h
  · exact .inr ⟨g, off, cap, h1, h2, h3, h4, h6⟩
theorem ILn.keep {b : Nat} {w w' : World} {v : Value} {zs : List Int} (h : ILn b w v zs) (hg : w.grownBy w' (some b)) : ILn b w' v zs := by
  rcases h with h | ⟨g, off, cap, h1, h2, h3, h4, h5, h6⟩
  · exact .inl h
  · refine .inr ⟨g, off, cap, h1, h2, h3, Nat.lt_of_lt_of_le h4 hg.size, h5, fun i hi => ?_⟩
    have hk : w'.heap[g]? = w.heap[g]? := hg.block g h4 (fun e => by injection e with e; omega)
    have := h6 i hi
    unfold World.cell? at this ⊢
    rw [hk]
    exact this
theorem ILn.old {b : Nat} {w w' : World} {v : Value} {zs : List Int} (h : IL w v zs) (hb : Below w.heap.size w w') (he : b = w.heap.size) : ILn b w' v zs := by
  rcases h with h | ⟨g, off, cap, h1, h2, h3, h4, h5⟩
  · exact .inl h
  · exact .inr ⟨g, off, cap, h1, h2, h3, Nat.lt_of_lt_of_le h4 hb.size, by omega, fun i hi => (Below.cell (p := ⟨g, off + i, none⟩) hb h4).trans (h5 i hi)⟩
theorem ILn.own {b L : Nat} {w : World} {v : Value} {zs : List Int} (h : OwnI w L v zs) (hb : b < L) : ILn b w v zs := by
  rcases h.2 with ⟨rfl, h0⟩ | ⟨g, cap, cur, rfl, hB, hg, hnc, hcm, -, -⟩
  · exact .inl ⟨rfl, List.eq_nil_of_length_eq_zero h0⟩
  · refine .inr ⟨g, 0, cap, rfl, hnc, hcm, lt_of_block hg, by omega, fun i hi => ?_⟩
    rw [Nat.zero_add]
    exact owns_cell h rfl i _ (by rw [List.getElem?_map, List.getElem?_eq_getElem hi]; rfl)
/-- Some short list. -/
def isSome13 (b : Nat) : Value → World → Prop := fun v w => ∃ (a : Option Addr) (n c : Nat) (xs : List Int), v = .slice a n c ∧ ILn b w (.slice a n c) xs ∧ xs.length ≤ 100
theorem isSome13_keep {b : Nat} {v : Value} {w w' : World} (h : isSome13 b v w) (hg : w.grownBy w' (some b)) : isSome13 b v w' := by
  obtain ⟨a, n, c, xs, h1, h2, h3⟩ := h
  exact ⟨a, n, c, xs, h1, h2.keep hg, h3⟩
/-- A row of m short lists. -/
def isRow13 (b m : Nat) : Value → World → Prop := fun v w => ∃ g : Nat, v = .slice (some ⟨g, 0, none⟩) m m ∧ g < w.heap.size ∧ g ≠ b ∧ ∀ k, k < m → ∃ u, w.cell? ⟨g, k, none⟩ = some u ∧ isSome13 b u w
theorem isRow13_keep {b m : Nat} {v : Value} {w w' : World} (h : isRow13 b m v w) (hg : w.grownBy w' (some b)) : isRow13 b m v w' := by
  obtain ⟨g, h1, h2, h3, h4⟩ := h
  refine ⟨g, h1, Nat.lt_of_lt_of_le h2 hg.size, h3, fun k hk => ?_⟩
  obtain ⟨u, h5, h6⟩ := h4 k hk
  have hkk : w'.heap[g]? = w.heap[g]? := hg.block g h2 (fun e => by injection e with e; omega)
  refine ⟨u, ?_, isSome13_keep h6 hg⟩
  unfold World.cell? at h5 ⊢
  rw [hkk]
  exact h5
theorem row13_blk {b : Nat} {w : World} {us : List Value} (hb : b < w.heap.size) (h : ∀ u ∈ us, isSome13 b u w) (t : TypeId) : isRow13 b us.length (.slice (some ⟨w.heap.size, 0, none⟩) us.length us.length) (w.alloc (.cells us.toArray t)) := by
  have hn := heap_alloc_new w (.cells us.toArray t)
  have hgr := bgrow w (.cells us.toArray t)
  refine ⟨w.heap.size, rfl, lt_of_block hn, by omega, fun k hk => ⟨us[k], ?_, isSome13_keep (h _ (List.getElem_mem hk)) (only_of_below hgr _)⟩⟩
  generalize w.alloc _ = W at hn
  simp [World.cell?, hn, hk]
/-- The class of worlds in which a reader may have turned. -/
def Rd (w8 : World) (b : Nat) (zs : List Int) (wx : World) : Prop := w8.grownBy wx (some b) ∧ ∃ q, SrcAt wx b b zs q
theorem Rd.call {w8 wx w' : World} {b q : Nat} {zs : List Int} (h : Rd w8 b zs wx) (hs : SrcAt w' b b zs q) (hg : wx.grownBy w' (some b)) : Rd w8 b zs w' := ⟨only_trans h.1 hg, q, hs⟩
theorem Rd.alloc {w8 wx : World} {b : Nat} {zs : List Int} (h : Rd w8 b zs wx) (o : Obj) : Rd w8 b zs (wx.alloc o) := ⟨only_alloc h.1 _, h.2.imp fun _ h => h.alloc _⟩
end Go.Proofs.YtihmdnbeonefcaaDoor

namespace Go.Proofs.YtihmdnbeonefcaaDoor
set_option linter.unusedVariables false
set_option linter.unusedSimpArgs false
open Go Go.RowKit Go.Sort

theorem growE_zero {N : Nat} {ps : List (Int × Int)} {x : List Int} (hs : setB N x = true) : (growE N ps x == 0) = (setB N x && admX N ps (memB x)) := by
  unfold growE
  rw [hs, if_pos rfl, Bool.true_and]
  cases admX N ps (memB x) <;> rfl
theorem shrinkE_zero {N : Nat} {ps : List (Int × Int)} {x : List Int} (hs : setB N x = true) : (shrinkE N ps x == 0) = (setB N x && cfX ps (memB x)) := by
  unfold shrinkE
  rw [hs, if_pos rfl, Bool.true_and]
  cases cfX ps (memB x) <;> rfl
theorem subL_to {N : Nat} {x : List Int} {Y : Nat → Bool} (hs : setB N x = true) : subL x (setL N Y) = subX N (memB x) Y := by
  conv => lhs; rw [setB_eq hs]
  rw [subL_set]
theorem subL_from {N : Nat} {x : List Int} {Y : Nat → Bool} (hs : setB N x = true) : subL (setL N Y) x = subX N Y (memB x) := by
  conv => lhs; arg 2; rw [setB_eq hs]
  rw [subL_set]
theorem subL_both {N : Nat} {x y : List Int} (hs : setB N x = true) (ht : setB N y = true) : subL x y = subX N (memB x) (memB y) := by
  conv => lhs; arg 2; rw [setB_eq ht]
  exact subL_to hs
section
variable {N : Nat} {ps : List (Int × Int)} (hix : ∀ p ∈ ps, (0 ≤ p.1 ∧ p.1 < (N : Int)) ∧ (0 ≤ p.2 ∧ p.2 < (N : Int)))
include hix
theorem comp_set (X : Nat → Bool) : compX N ps (memB (setL N X)) = compX N ps X := by
  unfold compX
  rw [cf_set hix]
  congr 1
  congr 1
  · rw [Bool.eq_iff_iff, subX_iff, subX_iff]
    constructor
    · intro h i hi hx
      rw [← dfX_congr hix memB_back]
      exact h i hi (by rw [memB_back i hi]; exact hx)
    · intro h i hi hx
      rw [dfX_congr hix memB_back]
      exact h i hi (by rw [← memB_back (N := N) (X := X) i hi]; exact hx)
  · rw [Bool.eq_iff_iff, subX_iff, subX_iff]
    constructor
    · intro h i hi hx
      rw [← memB_back (N := N) (X := X) i hi]
      exact h i hi (by rw [dfX_congr hix memB_back]; exact hx)
    · intro h i hi hx
      rw [memB_back i hi]
      exact h i hi (by rw [← dfX_congr hix memB_back (X := memB (setL N X))]; exact hx)
theorem grow_ok {x a : List Int} (hs : setB N x = true) (h : GrowS N ps x a) (he : growE N ps x = 0) :
    (setB N a && compX N ps (memB a)) = true ∧ subL x a = true ∧ ∀ y, setB N y = true → (setB N y && compX N ps (memB y)) = true → subL x y = true → subL a y = true := by
  obtain ⟨Z, hz, rfl⟩ := h.good he
  refine ⟨?_, ?_, fun y hy hc hxy => ?_⟩
  · rw [setB_setL, comp_set hix, Bool.true_and]
    exact compX_iff.2 ⟨hz.cf, hz.def_, hz.all_⟩
  · rw [subL_to hs, subX_iff]
    exact hz.sup
  · rw [subL_from hy, subX_iff]
    rw [subL_both hs hy, subX_iff] at hxy
    rw [hy, Bool.true_and] at hc
    exact hz.least _ hxy (compX_iff.1 hc).2.2
theorem shrink_ok {x b : List Int} (hs : setB N x = true) (h : ShrinkS N ps x b) (he : shrinkE N ps x = 0) :
    (setB N b && admX N ps (memB b)) = true ∧ subL b x = true ∧ ∀ y, setB N y = true → subL y x = true → (setB N y && admX N ps (memB y)) = true → subL y b = true := by
  obtain ⟨Z, hz, rfl⟩ := h.good he
  have hcf : cfX ps (memB x) = true := by
    have := shrinkE_zero (ps := ps) hs
    rw [he, hs, Bool.true_and] at this
    exact this.symm
  refine ⟨?_, ?_, fun y hy hxy hc => ?_⟩
  · rw [setB_setL, adm_set hix, Bool.true_and]
    exact admX_iff.2 ⟨cfX_sub hix hz.sub hcf, hz.def_⟩
  · rw [subL_from hs, subX_iff]
    exact hz.sub
  · rw [subL_to hy, subX_iff]
    rw [subL_both hy hs, subX_iff] at hxy
    rw [hy, Bool.true_and] at hc
    exact hz.most _ hxy (admX_iff.1 hc).2
end
theorem GrowS.set {N : Nat} {ps : List (Int × Int)} {x a : List Int} (h : GrowS N ps x a) : setB N a = true := by
  by_cases e : growE N ps x = 0
  · obtain ⟨Z, -, rfl⟩ := h.good e
    exact setB_setL N Z
  · rw [h.bad e]
    exact setB_iff.2 ⟨fun z hz => (by cases hz), List.Pairwise.nil⟩
theorem ShrinkS.set {N : Nat} {ps : List (Int × Int)} {x a : List Int} (h : ShrinkS N ps x a) : setB N a = true := by
  by_cases e : shrinkE N ps x = 0
  · obtain ⟨Z, -, rfl⟩ := h.good e
    exact setB_setL N Z
  · rw [h.bad e]
    exact setB_iff.2 ⟨fun z hz => (by cases hz), List.Pairwise.nil⟩
end Go.Proofs.YtihmdnbeonefcaaDoor

namespace Go.Proofs.YtihmdnbeonefcaaDoor
set_option linter.unusedVariables false
set_option linter.unusedSimpArgs false
open Go Go.RowKit Go.Sort

theorem IL.cells {w : World} {b off n c : Nat} {xs : List Int} (h : IL w (.slice (some ⟨b, off, none⟩) n c) xs) : ∀ j u, (xs.map (Value.int .i64))[j]? = some u → w.cell? ((⟨b, off, none⟩ : Addr).add j) = some u := by
  rcases h with ⟨h, -⟩ | ⟨b', off', cap, h1, h2, h3, h4, h5⟩
  · cases h
  · injection h1 with h1
    injection h1 with h1
    injection h1 with h1 h8
    subst h1 h8
    intro j u hj
    rw [List.getElem?_map] at hj
    obtain ⟨x, hx, rfl⟩ := Option.map_eq_some_iff.1 hj
    obtain ⟨hl, rfl⟩ := List.getElem?_eq_some_iff.1 hx
    rw [add_plain9]
    exact h5 j hl
theorem IL.len {w : World} {a : Option Addr} {n c : Nat} {xs : List Int} (h : IL w (.slice a n c) xs) : xs.length = n := by
  rcases h with ⟨h, rfl⟩ | ⟨b', off', cap, h1, h2, h3, h4, h5⟩
  · injection h with _ h2 _; subst h2; rfl
  · injection h1 with _ h6 _; exact h6.symm
theorem ints_one (xs : List Int) : ∀ u ∈ xs.map (Value.int .i64), u.oneCell' = true := by
  intro u hu
  obtain ⟨x, -, rfl⟩ := List.mem_map.1 hu
  rfl
theorem info_int : ∃ i : TypeInfo, Tryd.prog.info? 3 = some i ∧ i.zero = some (.int .i64 0) ∧ i.size = 1 ∧ i.bytes = 8 := by
  obtain ⟨i0, hi, hz0, hz1, hz2⟩ := info_parts infoI9
  exact ⟨i0, hi, hz0, hz1, hz2⟩

/-- append of some numbers to a list without room: a new list. -/
theorem run_append_full {w : World} (ty : TypeId) {a : Option Addr} {n : Nat} {xs : List Int} (h : IL w (.slice a n n) xs) (hn : n ≤ 1000) {m c1 : Nat} {z : Int} {tm : TypeId} (hm : w.heap[m]? = some (.cells #[.int .i64 z] tm (0, 0))) :
    ∃ g c w', (Builtin.append_ #[22, 22] ty #[.slice a n n, .slice (some ⟨m, 0, none⟩) 1 c1]).run Tryd.prog w = .ok (.slice (some ⟨g, 0, none⟩) (n + 1) c) w' ∧ OwnI w' w.heap.size (.slice (some ⟨g, 0, none⟩) (n + 1) c) (xs ++ [z]) ∧ Below w.heap.size w w' := by
  obtain ⟨i0, hi, hz0, hz1, hz2⟩ := info_int
  have hl := h.len
  have hnews : ∀ j u, ([.int .i64 z] : List Value)[j]? = some u → w.cell? ((⟨m, 0, none⟩ : Addr).add j) = some u := cells_news hm
  have fin : ∀ v' w', w'.ownsRow w.heap.size 3 1 v' (n + 1) (xs.map (Value.int .i64) ++ [.int .i64 z]) → w.grownBy w' none → ∃ g c, v' = .slice (some ⟨g, 0, none⟩) (n + 1) c ∧ OwnI w' w.heap.size v' (xs ++ [z]) ∧ Below w.heap.size w w' := fun v' w' ho hg => by
    obtain ⟨g, cap, rfl, -⟩ := owns_slice ho
    exact ⟨g, cap, rfl, OwnI.done hl ho, ⟨hg.os, hg.tape, hg.output, hg.size, fun k hk => hg.block k hk (fun e => by cases e)⟩⟩
  rcases h with ⟨h, rfl⟩ | ⟨b, off, cap, h1, h2, h3, h4, h5⟩
  · injection h with e1 e2 e3
    subst e1 e2
    obtain ⟨v', w', hr, h6, h7, -⟩ := run_append_own (P := Tryd.prog) w w.heap.size 22 ty 3 i0 _ 1 8 Tryd.underlying22 hi hz0 hz1 hz2 rfl (by decide) (.slice none 0 0) 0 [] (World.ownsRow_nil w _ _ _) ⟨m, 0, none⟩ 1 c1 [.int .i64 z] rfl hnews (one_of (by rfl)) (by unfold maxLen; omega) (by omega) (Nat.le_refl _)
    obtain ⟨g, c, rfl, h8, h9⟩ := fin v' w' h6 h7
    exact ⟨g, c, w', hr, h8, h9⟩
  · injection h1 with e1 e2 e3
    subst e1 e3
    have hil : IL w (.slice (some ⟨b, off, none⟩) n n) xs := .inr ⟨b, off, n, by rw [hl], h2, h3, h4, h5⟩
    obtain ⟨v', w', hr, h6, h7⟩ := run_append_arg_grows (P := Tryd.prog) w 22 ty 3 i0 _ 1 8 Tryd.underlying22 hi hz0 hz1 hz2 rfl (by decide) ⟨b, off, none⟩ n n (xs.map (Value.int .i64)) (by rw [List.length_map, hl, Nat.mul_one]) hil.cells ⟨m, 0, none⟩ 1 c1 [.int .i64 z] rfl hnews (by omega) (by unfold maxLen; omega) (by omega)
    obtain ⟨g, c, rfl, h8, h9⟩ := fin v' w' h6 h7
    exact ⟨g, c, w', hr, h8, h9⟩

theorem wpList_append_full {w : World} {ops : Array Oper} {rest : List Oper} {o : Oper} {a : Act} {Q : Exit → Act → World → Prop} (hgd : o.guard = none) (s x : Operand)
    (ho : o.op = .call { callee := .builtin .append, args := #[s, x], argTypes := #[22, 22] }) (av : Option Addr) (n : Nat) (xs : List Int) (hs : a.eval s = .slice av n n) (h : IL w (.slice av n n) xs) (hn : n ≤ 1000)
    (m c1 : Nat) (hx : a.eval x = .slice (some ⟨m, 0, none⟩) 1 c1) (z : Int) (tm : TypeId) (hm : w.heap[m]? = some (.cells #[.int .i64 z] tm (0, 0)))
    (k : ∀ g c w', OwnI w' w.heap.size (.slice (some ⟨g, 0, none⟩) (n + 1) c) (xs ++ [z]) → Below w.heap.size w w' → wpList Tryd.prog ops Q rest (a.put o.dst (.slice (some ⟨g, 0, none⟩) (n + 1) c)) w') : wpList Tryd.prog ops Q (o :: rest) a w := by
  obtain ⟨g, c, w', hr, h2, h3⟩ := run_append_full (w := w) o.type h hn (c1 := c1) hm
  refine wpList_plain hgd fun K hK => ?_
  unfold Oper.wp execOp
  simp only [ho, resolve, invoke, builtin, Sem.run_bind, Sem.run_pure, Result.andThen_ok, List.map_toArray, List.map_cons, List.map_nil, hs, hx, hr]
  exact hK _ _ (k g c w' h2 h3)

/-- append of a list to an empty one that the call has made. -/
theorem run_append_ints {w : World} (ty : TypeId) {B g0 : Nat} (hB : B ≤ g0) (hg0 : w.heap[g0]? = some (.cells #[] 3 (0, 0))) {a : Option Addr} {n c1 : Nat} {xs : List Int} (h : IL w (.slice a n c1) xs) (hn : n ≤ 1000) :
    ∃ g c w', (Builtin.append_ #[22, 22] ty #[.slice (some ⟨g0, 0, none⟩) 0 0, .slice a n c1]).run Tryd.prog w = .ok (.slice (some ⟨g, 0, none⟩) n c) w' ∧ OwnI w' B (.slice (some ⟨g, 0, none⟩) n c) xs ∧ w.grownBy w' (some g0) := by
  obtain ⟨i0, hi, hz0, hz1, hz2⟩ := info_int
  have hl := h.len
  have hown : w.ownsRow B 3 1 (.slice (some ⟨g0, 0, none⟩) 0 0) 0 [] := ⟨rfl, .inr ⟨g0, 0, #[], rfl, hB, hg0, Nat.le_refl _, Nat.zero_le _, rfl, rfl⟩⟩
  have hsz : B ≤ w.heap.size := by have := lt_of_block hg0; omega
  rcases h with ⟨h, rfl⟩ | ⟨b, off, cap, h1, h2, h3, h4, h5⟩
  · injection h with e1 e2 e3
    subst e1 e2 e3
    have hr := run_append_owned_none (P := Tryd.prog) (w := w) B 22 ty 3 i0 1 Tryd.underlying22 hi _ 0 _ hown
    exact ⟨g0, 0, w, hr, hown, only_refl w _⟩
  · injection h1 with e1 e2 e3
    subst e1 e3
    have hil : IL w (.slice (some ⟨b, off, none⟩) n c1) xs := .inr ⟨b, off, c1, by rw [hl], h2, h3, h4, h5⟩
    obtain ⟨v', w', hr, h6, h7, h8⟩ := run_append_own (P := Tryd.prog) w B 22 ty 3 i0 _ 1 8 Tryd.underlying22 hi hz0 hz1 hz2 rfl (by decide) _ 0 [] hown ⟨b, off, none⟩ n c1 (xs.map (Value.int .i64)) (by rw [List.length_map, hl, Nat.mul_one]) hil.cells (ints_one xs) (by unfold maxLen; omega) (by omega) hsz
    rw [Nat.zero_add, List.nil_append] at h6
    rcases h6.2 with ⟨h9, -⟩ | ⟨g, cap, cur, rfl, h10⟩
    · have := h8.1 h9
      cases this.1
    · refine ⟨g, cap, w', hr, ?_, h7⟩
      show World.ownsRow _ _ _ _ _ _ _
      rw [hl]
      exact h6

theorem wpList_append_ints {w : World} {ops : Array Oper} {rest : List Oper} {o : Oper} {a : Act} {Q : Exit → Act → World → Prop} (hgd : o.guard = none) (s x : Operand)
    (ho : o.op = .call { callee := .builtin .append, args := #[s, x], argTypes := #[22, 22] }) (B g0 : Nat) (hB : B ≤ g0) (hg0 : w.heap[g0]? = some (.cells #[] 3 (0, 0))) (hs : a.eval s = .slice (some ⟨g0, 0, none⟩) 0 0)
    (av : Option Addr) (n c1 : Nat) (xs : List Int) (hx : a.eval x = .slice av n c1) (h : IL w (.slice av n c1) xs) (hn : n ≤ 1000)
    (k : ∀ g c w', OwnI w' B (.slice (some ⟨g, 0, none⟩) n c) xs → w.grownBy w' (some g0) → wpList Tryd.prog ops Q rest (a.put o.dst (.slice (some ⟨g, 0, none⟩) n c)) w') : wpList Tryd.prog ops Q (o :: rest) a w := by
  obtain ⟨g, c, w', hr, h2, h3⟩ := run_append_ints (w := w) o.type hB hg0 h hn
  refine wpList_plain hgd fun K hK => ?_
  unfold Oper.wp execOp
  simp only [ho, resolve, invoke, builtin, Sem.run_bind, Sem.run_pure, Result.andThen_ok, List.map_toArray, List.map_cons, List.map_nil, hs, hx, hr]
  exact hK _ _ (k g c w' h2 h3)

/-- The value reads as a list. -/
def isL (n : Nat) (xs : List Int) : Value → World → Prop := fun v w => ∃ a c, v = .slice a n c ∧ IL w v xs
theorem isL_up (n : Nat) (xs : List Int) : GoesUp (isL n xs) := fun _ _ _ hg ⟨a, c, h1, h2⟩ => ⟨a, c, h1, h2.below hg⟩
def isV (x : Value) : Value → World → Prop := fun v _ => v = x
theorem isV_up (x : Value) : GoesUp (isV x) := fun _ _ _ _ h => h
theorem isL.il {n : Nat} {xs : List Int} {a : Option Addr} {c : Nat} {w : World} (h : isL n xs (.slice a n c) w) : IL w (.slice a n c) xs := by
  obtain ⟨a', c', -, h2⟩ := h
  exact h2
end Go.Proofs.YtihmdnbeonefcaaDoor

namespace Go.Proofs.YtihmdnbeonefcaaDoor
set_option linter.unusedVariables false
set_option linter.unusedSimpArgs false
open Go Go.RowKit Go.Sort

theorem cut_list (N : Nat) (ps : List (Int × Int)) (Z : Nat → Bool) : (setL N Z).filter (fun z : Int => dfX ps Z z.toNat) = setL N (cutX ps Z) := by
  unfold setL ints
  rw [List.filter_map, List.filter_filter]
  congr 1
  apply List.filter_congr
  intro i _
  show (dfX ps Z (Int.toNat (Int.ofNat i)) && Z i) = (Z i && dfX ps Z i)
  rw [Int.ofNat_eq_natCast, Int.toNat_natCast, Bool.and_comm]
def sliceLen : Value → Nat
  | .slice _ n _ => n
  | _ => 0
theorem set_size {N : Nat} {x : List Int} (h : setB N x = true) : x.length = sizeX N (memB x) := by
  conv => lhs; rw [setB_eq h]
  exact setL_size N _

set_option maxRecDepth 100000 in
set_option maxHeartbeats 4000000 in
theorem raGrow_any (N : Nat) (v v2 : Value) (ps : List (Int × Int)) (x : List Int) (w : World) (h : PairsAt w v ps) (hok : GOk (N : Int) ps) (hpl : ps.length ≤ 1000) (hs : IL w v2 x) (hsl : x.length ≤ 100000) :
    Calls Tryd.prog 34 #[.agg #[.int .i64 (N : Int), v], v2] w fun e w' => ∃ (a : Option Addr) (c : Nat) (l : List Int), e = .returned (.tuple #[.slice a l.length c, .int .i64 (growE N ps x)]) ∧ GrowS N ps x l ∧ IL w' (.slice a l.length c) l ∧ Below w.heap.size w w' := by
  have hB := bgrow w (.cells #[.int .i64 (N : Int), v] 27)
  have H1 := hidIt (h.below hB)
  have H2 := hidIt (hs.below hB)
  obtain ⟨a, c, rfl, -⟩ := h.form
  obtain ⟨a2, c2, rfl, -⟩ := (hs.below hB).form
  have HX := hidIt (heap_alloc_new w (.cells #[.int .i64 (N : Int), .slice a ps.length c] 27))
  have HB := hidIt hB
  have HPL := hidIt hpl
  have HSL := hidIt hsl
  have HOK := hidIt hok
  have hN : N ≤ 40 := by have := hok.n40; omega
  have HM : Hid (growE N ps x = if setB N x = true then (if admX N ps (memB x) = true then 0 else 7) else 1) := (rfl : _ = _)
  have HS0 : Hid (growE N ps x ≠ 0 → GrowS N ps x []) := fun h => ⟨fun _ => rfl, fun e => absurd e h⟩
  have HS1 : Hid (growE N ps x = 0 → ∀ Z, GrowR N ps (memB x) Z → GrowS N ps x (setL N Z)) := fun h Z hz => ⟨fun e => absurd h e, fun _ => ⟨Z, hz, rfl⟩⟩
  generalize growE N ps x = E at *
  clear h hs hB hok hpl hsl
  go_enter Tryd.func34, Tryd.ntmps34
  go_upto_region 1 with (fail)
  generalize (w.alloc (.cells #[.int .i64 (N : Int), .slice a ps.length c] 27)) = w1 at *
  obtain ⟨P, hP⟩ : ∃ P, P = w.heap.size := ⟨_, rfl⟩
  have HP := hidIt hP
  rw [← hP] at HX ⊢
  clear hP
  obtain ⟨x0, x1⟩ := And.intro (cell_two0 HX.out) (cell_two1 HX.out)
  have lx := lt_of_block HX.out
  have HC := hidIt (raValid_any N _ _ ps x w1 H1.out H2.out HSL.out)
  cases hset : setB N x
  · rw [hset] at HC HM
    have hE : E = 1 := by have := HM.out; rwa [if_neg (by decide)] at this
    subst hE
    clear hset
    go_wp2_with fail
    refine HC.out.mono ?_
    rintro e w2 ⟨rfl, hb2⟩
    have HB2 := hidIt (HB.out.trans (Below.mono hb2 HB.out.size))
    clear hb2
    go_wp2_with fail
    refine bodyPost_ret (v := .tuple #[.slice none 0 0, .int .i64 1]) (by simp [results, Tryd.results34]) rfl ?_
    exact ⟨none, 0, [], rfl, HS0.out (by decide), IL.nil _, HB2.out⟩
  have HSB := hidIt hset
  rw [hset] at HC HM
  have HM2 : Hid (E = if admX N ps (memB x) = true then 0 else 7) := by have := HM.out; rwa [if_pos rfl] at this
  clear hset HM
  go_wp2_with fail
  refine HC.out.mono ?_
  rintro e w2 ⟨rfl, hb2⟩
  have HB2 := hidIt (HB.out.trans (Below.mono hb2 HB.out.size))
  have HX2 := hidIt (blk_kept2 HX.out hb2)
  have H12 := hidIt (H1.out.below hb2)
  have H22 := hidIt (H2.out.below hb2)
  clear hb2 x0 x1 lx HX H1 H2 HB
  obtain ⟨x0, x1⟩ := And.intro (cell_two0 HX2.out) (cell_two1 HX2.out)
  have lx := lt_of_block HX2.out
  have HD := hidIt (raAdmissible_any N _ _ ps x w2 H12.out HOK.out HPL.out H22.out HSL.out)
  rw [HSB.out, Bool.true_and] at HD
  clear HC
  cases hc : admX N ps (memB x)
  · rw [hc] at HD
    have hE : E = 7 := by have := HM2.out; rw [hc] at this; exact this
    subst hE
    clear hc
    go_wp2_with fail
    refine HD.out.mono ?_
    rintro e w3 ⟨rfl, hb3⟩
    have HB3 := hidIt (HB2.out.trans (Below.mono hb3 HB2.out.size))
    clear hb3
    go_wp2_with fail
    refine bodyPost_ret (v := .tuple #[.slice none 0 0, .int .i64 7]) (by simp [results, Tryd.results34]) rfl ?_
    exact ⟨none, 0, [], rfl, HS0.out (by decide), IL.nil _, HB3.out⟩
  have hE : E = 0 := by have := HM2.out; rw [hc] at this; exact this
  subst hE
  have HI0 := hidIt (GrowI.start hc)
  rw [hc] at HD
  clear hc HM2 HS0
  go_wp2_with fail
  refine HD.out.mono ?_
  rintro e w3 ⟨rfl, hb3⟩
  have hgr4 := bgrow w3 (.cells #[] 3)
  have HB2b := hidIt (HB2.out.trans (Below.mono hb3 HB2.out.size))
  have HX3 := hidIt (blk_kept2 HX2.out hb3)
  have H13 := hidIt (H12.out.below hb3)
  have HB4 := hidIt ((HB2.out.trans (Below.mono hb3 HB2.out.size)).trans (Below.mono hgr4 (Nat.le_trans HB2.out.size hb3.size)))
  have HX4 := hidIt (blk_kept2 (blk_kept2 HX2.out hb3) hgr4)
  have H14 := hidIt ((H12.out.below hb3).below hgr4)
  have H24 := hidIt ((H22.out.below hb3).below hgr4)
  have HXL : Hid (x.length ≤ 40) := Nat.le_trans (setB_len HSB.out) hN
  obtain ⟨XL, hXL⟩ : ∃ XL, XL = x.length := ⟨_, rfl⟩
  have HXN := hidIt hXL
  rw [← hXL] at H24 HXL H22 ⊢
  have hx1000 : XL ≤ 1000 := by have := HXL.out; omega
  clear hb3 hgr4 x0 x1 lx HX2 H12 HB2 hXL
  go_wp2_with (at_builtin; refine Hid.out ?_)
  refine hidIt ?_
  refine wpList_append_ints rfl (.tmp 16) (.tmp 17) rfl w3.heap.size w3.heap.size (Nat.le_refl _) (heap_alloc_new _ _) rfl a2 XL c2 x rfl H24.out hx1000 ?_
  intro g5 c5 w5 ho5 hg5
  have HB5 : Hid (Below w3.heap.size w3 w5) := below_app5 (bgrow w3 (.cells #[] 3)) hg5 (fun g e => by injection e with e; omega) (by rw [World.size_alloc]; omega)
  have HI5 := hidIt ho5.il
  have HBB5 := hidIt (HB2b.out.trans (Below.mono HB5.out HB2b.out.size))
  have HX5 := hidIt (blk_kept2 HX3.out HB5.out)
  have H15 := hidIt (H13.out.below HB5.out)
  have HXS : Hid (x = setL N (memB x)) := setB_eq HSB.out
  have HXZ : Hid (XL = sizeX N (memB x)) := by show _ = _; rw [HXN.out]; exact set_size HSB.out
  rw [HXS.out] at HI5
  clear ho5 hg5 HB5 HB4 HX4 H14 H24
  go_wp2_with fail
  go_loopw [6, 7] (fun v6 _ wr => ∃ (Z : Nat → Bool) (m : Nat) (b : Option Addr) (d : Nat), v6 = .slice b m d ∧ Hid (m = sizeX N Z) ∧ Hid (IL wr (.slice b m d) (setL N Z)) ∧ Hid (GrowI N ps (memB x) Z) ∧ Hid (Below w5.heap.size w5 wr)) (fun v6 _ _ => N + 1 - sliceLen v6)
  case atStart => exact ⟨memB x, XL, _, _, (by first | rfl | trivial), HXZ.out, HI5.out, HI0.out, Below.refl _ _⟩
  case round =>
    clear HI5 HXZ HI0
    obtain ⟨Z, m, b, d, rfl, HMZ, HIZ, HGI, HBr⟩ := hrel
    have hm40 : m ≤ 40 := by have := sizeX_le N Z; have := HMZ.out; omega
    have HXr := hidIt (blk_kept2 HX5.out HBr.out)
    obtain ⟨x0, x1⟩ := And.intro (cell_two0 HXr.out) (cell_two1 HXr.out)
    have lx := lt_of_block HXr.out
    have HZL : Hid ((setL N Z).length = m) := by show _ = _; rw [setL_size]; exact HMZ.out.symm
    have HST := hidIt (raStep_any N _ _ ps (setL N Z) wr (H15.out.below HBr.out) HOK.out HPL.out HIZ.out (by have := HZL.out; omega))
    rw [step_set HOK.out.ix] at HST
    have HSZ := hidIt (setL_size N (dfX ps Z))
    rw [HSZ.out] at HST
    have HNX := hidIt (HGI.out.next HOK.out.ix)
    have hle : sizeX N Z ≤ sizeX N (dfX ps Z) := sizeX_mono HGI.out.def_
    have hle2 := sizeX_le N (dfX ps Z)
    have HEQ : Hid (sizeX N (dfX ps Z) = m → GrowR N ps (memB x) Z) := fun e => HGI.out.fin fun i hi => (sizeX_eq HGI.out.def_ (by have := HMZ.out; omega) i hi).symm
    have HMZ2 : Hid (sizeX N (dfX ps Z) = sizeX N (dfX ps Z)) := (rfl : _ = _)
    generalize hq : sizeX N (dfX ps Z) = q at *
    have hqm : m ≤ q := by have := HMZ.out; omega
    go_wp2_with fail
    refine HST.out.mono ?_
    rintro e w6 ⟨na, nc, rfl, ho6, hb6⟩
    have HN6 := hidIt ho6.il
    have HI6 := hidIt (HIZ.out.below hb6)
    have HB6 := hidIt (HBr.out.trans (Below.mono hb6 HBr.out.size))
    clear ho6 hb6 x0 x1 lx HST
    by_cases hqe : q = m
    · have HFN := hidIt (HS1.out (by trivial) Z (HEQ.out hqe))
      have hb : ((q : Int) == (m : Int)) = true := beq_iff_eq.2 (by omega)
      have HBF := hidIt (HBB5.out.trans (Below.mono HB6.out HBB5.out.size))
      clear hqe
      go_wp2_with fail
      refine bodyPost_ret (v := .tuple #[.slice b m d, .int .i64 0]) (by simp [results, Tryd.results34]) rfl ?_
      exact ⟨b, d, setL N Z, (by rw [HZL.out]), HFN.out, (by rw [HZL.out]; exact HI6.out), HBF.out⟩
    · have hb : ((q : Int) == (m : Int)) = false := beq_eq_false_iff_ne.2 (by omega)
      have hqlt : m < q := by omega
      clear hqe
      go_wp2_with fail
      go_roundw
      case rel => exact ⟨dfX ps Z, q, na, nc, (by first | rfl | trivial), hq.symm, HN6.out, HNX.out, HB6.out⟩
      case measure =>
        show N + 1 - q < N + 1 - m
        omega

set_option maxRecDepth 100000 in
set_option maxHeartbeats 4000000 in
theorem raShrink_any (N : Nat) (v v2 : Value) (ps : List (Int × Int)) (x : List Int) (w : World) (h : PairsAt w v ps) (hok : GOk (N : Int) ps) (hpl : ps.length ≤ 1000) (hs : IL w v2 x) (hsl : x.length ≤ 100000) :
    Calls Tryd.prog 36 #[.agg #[.int .i64 (N : Int), v], v2] w fun e w' => ∃ (a : Option Addr) (c : Nat) (l : List Int), e = .returned (.tuple #[.slice a l.length c, .int .i64 (shrinkE N ps x)]) ∧ ShrinkS N ps x l ∧ IL w' (.slice a l.length c) l ∧ Below w.heap.size w w' := by
  have hB := bgrow w (.cells #[.int .i64 (N : Int), v] 27)
  have H1 := hidIt (h.below hB)
  have H2 := hidIt (hs.below hB)
  obtain ⟨a, c, rfl, -⟩ := h.form
  obtain ⟨a2, c2, rfl, -⟩ := (hs.below hB).form
  have HX := hidIt (heap_alloc_new w (.cells #[.int .i64 (N : Int), .slice a ps.length c] 27))
  have HB := hidIt hB
  have HPL := hidIt hpl
  have HSL := hidIt hsl
  have HOK := hidIt hok
  have hN : N ≤ 40 := by have := hok.n40; omega
  have HM : Hid (shrinkE N ps x = if setB N x = true then (if cfX ps (memB x) = true then 0 else 10) else 1) := (rfl : _ = _)
  have HS0 : Hid (shrinkE N ps x ≠ 0 → ShrinkS N ps x []) := fun h => ⟨fun _ => rfl, fun e => absurd e h⟩
  have HS1 : Hid (shrinkE N ps x = 0 → ∀ Z, ShrinkR N ps (memB x) Z → ShrinkS N ps x (setL N Z)) := fun h Z hz => ⟨fun e => absurd h e, fun _ => ⟨Z, hz, rfl⟩⟩
  generalize shrinkE N ps x = E at *
  clear h hs hB hok hpl hsl
  go_enter Tryd.func36, Tryd.ntmps36
  go_upto_region 1 with (fail)
  generalize (w.alloc (.cells #[.int .i64 (N : Int), .slice a ps.length c] 27)) = w1 at *
  obtain ⟨P, hP⟩ : ∃ P, P = w.heap.size := ⟨_, rfl⟩
  have HP := hidIt hP
  rw [← hP] at HX ⊢
  clear hP
  obtain ⟨x0, x1⟩ := And.intro (cell_two0 HX.out) (cell_two1 HX.out)
  have lx := lt_of_block HX.out
  have HC := hidIt (raValid_any N _ _ ps x w1 H1.out H2.out HSL.out)
  cases hset : setB N x
  · rw [hset] at HC HM
    have hE : E = 1 := by have := HM.out; rwa [if_neg (by decide)] at this
    subst hE
    clear hset
    go_wp2_with fail
    refine HC.out.mono ?_
    rintro e w2 ⟨rfl, hb2⟩
    have HB2 := hidIt (HB.out.trans (Below.mono hb2 HB.out.size))
    clear hb2
    go_wp2_with fail
    refine bodyPost_ret (v := .tuple #[.slice none 0 0, .int .i64 1]) (by simp [results, Tryd.results36]) rfl ?_
    exact ⟨none, 0, [], rfl, HS0.out (by decide), IL.nil _, HB2.out⟩
  have HSB := hidIt hset
  rw [hset] at HC HM
  have HM2 : Hid (E = if cfX ps (memB x) = true then 0 else 10) := by have := HM.out; rwa [if_pos rfl] at this
  clear hset HM
  go_wp2_with fail
  refine HC.out.mono ?_
  rintro e w2 ⟨rfl, hb2⟩
  have HB2 := hidIt (HB.out.trans (Below.mono hb2 HB.out.size))
  have HX2 := hidIt (blk_kept2 HX.out hb2)
  have H12 := hidIt (H1.out.below hb2)
  have H22 := hidIt (H2.out.below hb2)
  clear hb2 x0 x1 lx HX H1 H2 HB
  obtain ⟨x0, x1⟩ := And.intro (cell_two0 HX2.out) (cell_two1 HX2.out)
  have lx := lt_of_block HX2.out
  have HD := hidIt (raConflictFree_any N _ _ ps x w2 H12.out HOK.out (by have := HPL.out; omega) H22.out HSL.out)
  rw [HSB.out, Bool.true_and] at HD
  clear HC
  cases hc : cfX ps (memB x)
  · rw [hc] at HD
    have hE : E = 10 := by have := HM2.out; rw [hc] at this; exact this
    subst hE
    clear hc
    go_wp2_with fail
    refine HD.out.mono ?_
    rintro e w3 ⟨rfl, hb3⟩
    have HB3 := hidIt (HB2.out.trans (Below.mono hb3 HB2.out.size))
    clear hb3
    go_wp2_with fail
    refine bodyPost_ret (v := .tuple #[.slice none 0 0, .int .i64 10]) (by simp [results, Tryd.results36]) rfl ?_
    exact ⟨none, 0, [], rfl, HS0.out (by decide), IL.nil _, HB3.out⟩
  have hE : E = 0 := by have := HM2.out; rw [hc] at this; exact this
  subst hE
  have HI0 := hidIt (ShrinkI.start (N := N) (ps := ps) (X := memB x))
  rw [hc] at HD
  clear hc HM2 HS0
  go_wp2_with fail
  refine HD.out.mono ?_
  rintro e w3 ⟨rfl, hb3⟩
  have hgr4 := bgrow w3 (.cells #[] 3)
  have HB2b := hidIt (HB2.out.trans (Below.mono hb3 HB2.out.size))
  have HX3 := hidIt (blk_kept2 HX2.out hb3)
  have H13 := hidIt (H12.out.below hb3)
  have HB4 := hidIt ((HB2.out.trans (Below.mono hb3 HB2.out.size)).trans (Below.mono hgr4 (Nat.le_trans HB2.out.size hb3.size)))
  have HX4 := hidIt (blk_kept2 (blk_kept2 HX2.out hb3) hgr4)
  have H14 := hidIt ((H12.out.below hb3).below hgr4)
  have H24 := hidIt ((H22.out.below hb3).below hgr4)
  have HXL : Hid (x.length ≤ 40) := Nat.le_trans (setB_len HSB.out) hN
  obtain ⟨XL, hXL⟩ : ∃ XL, XL = x.length := ⟨_, rfl⟩
  have HXN := hidIt hXL
  rw [← hXL] at H24 HXL H22 ⊢
  have hx1000 : XL ≤ 1000 := by have := HXL.out; omega
  clear hb3 hgr4 x0 x1 lx HX2 H12 HB2 hXL
  go_wp2_with (at_builtin; refine Hid.out ?_)
  refine hidIt ?_
  refine wpList_append_ints rfl (.tmp 17) (.tmp 18) rfl w3.heap.size w3.heap.size (Nat.le_refl _) (heap_alloc_new _ _) rfl a2 XL c2 x rfl H24.out hx1000 ?_
  intro g5 c5 w5 ho5 hg5
  have HB5 : Hid (Below w3.heap.size w3 w5) := below_app5 (bgrow w3 (.cells #[] 3)) hg5 (fun g e => by injection e with e; omega) (by rw [World.size_alloc]; omega)
  have HI5 := hidIt ho5.il
  have HBB5 := hidIt (HB2b.out.trans (Below.mono HB5.out HB2b.out.size))
  have HX5 := hidIt (blk_kept2 HX3.out HB5.out)
  have H15 := hidIt (H13.out.below HB5.out)
  have HXS : Hid (x = setL N (memB x)) := setB_eq HSB.out
  have HXZ : Hid (XL = sizeX N (memB x)) := by show _ = _; rw [HXN.out]; exact set_size HSB.out
  rw [HXS.out] at HI5
  clear ho5 hg5 HB5 HB4 HX4 H14 H24
  go_wp2_with fail
  go_loopw [6, 7, 8] (fun v6 _ _ wr => ∃ (Z : Nat → Bool) (m : Nat) (b : Option Addr) (d : Nat), v6 = .slice b m d ∧ Hid (m = sizeX N Z) ∧ Hid (IL wr (.slice b m d) (setL N Z)) ∧ Hid (ShrinkI N ps (memB x) Z) ∧ Hid (Below w5.heap.size w5 wr)) (fun v6 _ _ _ => sliceLen v6)
  case atStart => exact ⟨memB x, XL, _, _, (by first | rfl | trivial), HXZ.out, HI5.out, HI0.out, Below.refl _ _⟩
  case round =>
    clear HI5 HXZ HI0
    obtain ⟨Z, m, b, d, rfl, HMZ, HIZ, HGI, HBr⟩ := hrel
    have hm40 : m ≤ 40 := by have := sizeX_le N Z; have := HMZ.out; omega
    have HZL : Hid ((setL N Z).length = m) := by show _ = _; rw [setL_size]; exact HMZ.out.symm
    have HNX := hidIt (HGI.out.next HOK.out.ix)
    have hle : sizeX N (cutX ps Z) ≤ sizeX N Z := sizeX_mono (fun i _ hx => by unfold cutX at hx; rw [Bool.and_eq_true] at hx; exact hx.1)
    have HEQ : Hid (sizeX N (cutX ps Z) = m → ShrinkR N ps (memB x) Z) := fun e => HGI.out.fin fun i hi => sizeX_eq (fun i _ hx => by unfold cutX at hx; rw [Bool.and_eq_true] at hx; exact hx.1) (by have := HMZ.out; omega) i hi
    have HCU := hidIt (cut_list N ps Z)
    have HCL := hidIt (setL_size N (cutX ps Z))
    have HEL : Hid (∀ (j : Nat) (h : j < (setL N Z).length), ∃ I : Nat, (setL N Z)[j] = (I : Int) ∧ I < N) := fun j h => by
      obtain ⟨I, h1, -, h3⟩ := mem_setL.1 (List.getElem_mem h)
      exact ⟨I, h3, h1⟩
    have HDF : Hid (∀ I : Nat, I < N → (setB N (setL N Z) && (ixB (I : Int) (N : Int) && dfX ps (memB (setL N Z)) (I : Int).toNat)) = dfX ps Z (I : Int).toNat) := fun I hI => by
      rw [setB_setL, Bool.true_and, show ixB (I : Int) (N : Int) = true by unfold ixB; simp; omega, Bool.true_and]
      exact dfX_congr HOK.out.ix memB_back _
    generalize hf : (fun z : Int => dfX ps Z z.toNat) = f at HCU
    have HFF : Hid (∀ z : Int, dfX ps Z z.toNat = f z) := fun z => by rw [← hf]
    clear hf
    obtain ⟨zl, hzl⟩ : ∃ zl, zl = setL N Z := ⟨_, rfl⟩
    have HZS := hidIt hzl
    rw [← hzl] at HIZ HZL HCU HEL HDF
    clear hzl
    obtain ⟨wi, hwi⟩ : ∃ wi, wi = wr := ⟨_, rfl⟩
    subst hwi
    obtain ⟨b', d', hbe, hzic⟩ := HIZ.out.ic
    injection hbe with hbe1 hbe2 hbe3
    subst hbe1
    have HZC := hidIt hzic
    clear hzic hbe2 hbe3
    go_wp2_with fail
    go_loopw [7, 8] (fun v7 i wr => ∃ (k l : Nat) (e : Option Addr) (g : Nat), k ≤ m ∧ v7 = .slice e l g ∧ i = .int .i64 k ∧ Hid (l = ((zl.take k).filter f).length) ∧ Hid (OwnI wr wi.heap.size (.slice e l g) ((zl.take k).filter f)) ∧ Hid (Below wi.heap.size wi wr)) (fun _ i _ => m - (intOf i).toNat)
    case atStart => exact ⟨0, 0, none, 0, Nat.zero_le _, (by first | rfl | trivial), (by first | rfl | trivial), (rfl : 0 = (([] : List Int).filter f).length), OwnI.nil _ _, Below.refl _ _⟩
    case round =>
      obtain ⟨k, l, e, g, hk, rfl, rfl, HL, HO, HBk⟩ := hrel
      have hk0 : (0 : Int) ≤ (k : Int) := by omega
      have HBw := hidIt (HBr.out.trans (Below.mono HBk.out HBr.out.size))
      by_cases hlt : k < m
      · have hkI : (k : Int) < (m : Int) := by omega
        have hkz : k < zl.length := by have := HZL.out; omega
        have HXr := hidIt (blk_kept2 HX5.out HBw.out)
        obtain ⟨b1, o1, rfl, l1, hc1⟩ := (HZC.out.go HBk.out).at_ hkz
        have p0 := hc1 k hkz
        have HST : Hid ((zl.take (k + 1)).filter f = (zl.take k).filter f ++ if f zl[k] = true then [zl[k]] else []) := by
          show _ = _
          rw [List.take_succ_eq_append_getElem hkz, List.filter_append]
          congr 1
          cases hfz : f zl[k] <;> simp [hfz]
        have HLE : Hid (l ≤ 40) := by
          show _ ≤ _
          rw [HL.out]
          have h1 := List.length_filter_le f (zl.take k)
          rw [List.length_take] at h1
          omega
        obtain ⟨I, hzI, hIN⟩ := HEL.out k hkz
        rw [hzI] at p0 HST
        clear hc1 hzI
        have HRD : Hid (∀ wx : World, Ext wr wx → Calls Tryd.prog 30 #[.agg #[.int .i64 (N : Int), .slice a ps.length c], .slice (some ⟨b1, o1, none⟩) m d, .int .i64 (I : Int)] wx fun e w' => e = .returned (.bool (f (I : Int))) ∧ Below wx.heap.size wx w') := fun wx hC => by
          have := raDefends_any N _ _ ps zl (I : Int) wx ((H15.out.below HBw.out).below hC) HOK.out HPL.out ((HIZ.out.below HBk.out).below hC) (by have := HZL.out; omega)
          rw [HDF.out I hIN, HFF.out] at this
          exact this
        obtain ⟨x0, x1⟩ := And.intro (cell_two0 HXr.out) (cell_two1 HXr.out)
        have lx := lt_of_block HXr.out
        have X0 := fun y => Ext.cell x0 y
        have X1 := fun y => Ext.cell x1 y
        have P0 := fun y => Ext.cell p0 y
        have LX := fun y : In (Ext wr) => Nat.lt_of_lt_of_le lx (Below.size y.h)
        have LP := fun y : In (Ext wr) => Nat.lt_of_lt_of_le l1 (Below.size y.h)
        cases hfz : f (I : Int)
        · rw [hfz] at HRD HST
          rw [if_neg (by decide), List.append_nil] at HST
          clear hfz
          go_wp2_with fail
          haveI := Ext.nonempty wr
          refine wp_region_in (Ext wr) (by kernel_rfl) (by kernel_rfl) (Ext.start wr) ?_
          repeat (go_big_quiet_step ((go_at_call 30; refine Ext.call (HRD.out _ (In.h _)))))
          refine wpQuiet_nil ?_
          rintro wq ⟨⟨_, hq⟩, rfl⟩
          have hq' : Below wr.heap.size wr _ := hq
          have HO5 := hidIt (HO.out.go hq')
          have HB5 := hidIt (HBk.out.trans (Below.mono hq' HBk.out.size))
          clear hq hq' X0 X1 P0 LX LP x0 x1 lx p0 l1 HRD HO HBk
          go_wp2_with fail
          go_roundw
          case rel => exact ⟨k + 1, l, e, g, by omega, (by first | rfl | trivial), by go_num, (by rw [HST.out]; exact HL.out), (by rw [HST.out]; exact HO5.out), HB5.out⟩
          case measure => simp [intOf]; omega
        · rw [hfz] at HRD HST
          rw [if_pos rfl] at HST
          clear hfz
          go_wp2_with fail
          haveI := Ext.nonempty wr
          refine wp_region_in (Ext wr) (by kernel_rfl) (by kernel_rfl) (Ext.start wr) ?_
          repeat (go_big_quiet_step ((go_at_call 30; refine Ext.call (HRD.out _ (In.h _)))))
          refine wpQuiet_nil ?_
          rintro wq ⟨⟨_, hq⟩, rfl⟩
          have hq' : Below wr.heap.size wr wq := hq
          have HO5 := hidIt (HO.out.go hq')
          have HB5 := hidIt (HBk.out.trans (Below.mono hq' HBk.out.size))
          have p2 := (Below.cell (p := ⟨b1, o1 + k, none⟩) hq' l1).trans p0
          have l2 := Nat.lt_of_lt_of_le l1 hq'.size
          clear hq hq' X0 X1 P0 LX LP x0 x1 lx p0 l1 HRD HO HBk
          have HTL : Hid (((zl.take k).filter f).length = l) := HL.out.symm
          have HO7 := hidIt (HO5.out.news HTL.out (.cells #[.int .i64 (I : Int)] 3))
          have HB7 := hidIt (HB5.out.trans (Below.mono (bgrow wq (.cells #[.int .i64 (I : Int)] 3)) HB5.out.size))
          have hsz7 : wi.heap.size ≤ (wq.alloc (.cells #[.int .i64 (I : Int)] 3)).heap.size := HB7.out.size
          have hl40 := HLE.out
          go_wp2_with (at_builtin; refine Hid.out ?_)
          refine hidIt ?_
          refine wpList_append_kb rfl (.tmp 33) (.tmp 38) elemI rfl wi.heap.size (.slice e l g) l _ rfl HO7.out _ 1 rfl #[.int .i64 (I : Int)] 3 (heap_alloc_new _ _) rfl (one_of (by rfl)) (by omega) hsz7 ?_
          intro g8 c8 w8 hown8 hg8 hbl8
          have HB8 := hidIt (below_app5 HB7.out hg8 (fun g e => (owns_blk HO7.out g e).1) hsz7)
          have HO8 : Hid (OwnI w8 wi.heap.size (.slice (some ⟨g8, 0, none⟩) (l + 1) c8) ((zl.take (k + 1)).filter f)) := by
            have := OwnI.done HTL.out hown8
            show OwnI _ _ _ _
            rw [HST.out]
            exact this
          have HL8 : Hid (l + 1 = ((zl.take (k + 1)).filter f).length) := by show _ = _; rw [HST.out, List.length_append, ← HL.out]; rfl
          clear hown8 hg8 hbl8 HO7 HB7 hsz7 HO5 HB5
          go_wp2_with fail
          go_roundw
          case rel => exact ⟨k + 1, l + 1, some ⟨g8, 0, none⟩, c8, by omega, (by first | rfl | trivial), by go_num, HL8.out, HO8.out, HB8.out⟩
          case measure => simp [intOf]; omega
      · obtain rfl : k = m := by omega
        have hkI : ¬ (k : Int) < (k : Int) := by omega
        have HFUL : Hid ((zl.take k).filter f = setL N (cutX ps Z)) := by
          show _ = _
          rw [List.take_of_length_le (by have := HZL.out; omega)]
          exact HCU.out
        have HLQ : Hid (l = sizeX N (cutX ps Z)) := by show _ = _; rw [HL.out, HFUL.out]; exact HCL.out
        have HIN : Hid (IL wr (.slice e l g) (setL N (cutX ps Z))) := by have := HO.out.il; rwa [HFUL.out] at this
        have HIO := hidIt (HIZ.out.below HBk.out)
        have hlk : l ≤ k := by have := HLQ.out; have := HMZ.out; omega
        clear HO HL
        by_cases hle2 : l = k
        · have hb : ((l : Int) == (k : Int)) = true := beq_iff_eq.2 (by omega)
          have HFN := hidIt (HS1.out (by trivial) Z (HEQ.out (by rw [← HLQ.out]; exact hle2)))
          have HBF := hidIt (HBB5.out.trans (Below.mono HBw.out HBB5.out.size))
          clear hle2
          go_wp2_with fail
          refine bodyPost_ret (v := .tuple #[.slice b k d, .int .i64 0]) (by simp [results, Tryd.results36]) rfl ?_
          exact ⟨b, d, zl, (by rw [HZL.out]), HZS.out.symm ▸ HFN.out, (by rw [HZL.out]; exact HIO.out), HBF.out⟩
        · have hb : ((l : Int) == (k : Int)) = false := beq_eq_false_iff_ne.2 (by omega)
          have hlt2 : l < k := by omega
          clear hle2
          go_wp2_with fail
          go_roundw
          case rel => exact ⟨cutX ps Z, l, e, g, (by first | rfl | trivial), HLQ.out, HIN.out, HNX.out, HBw.out⟩
          case measure =>
            show l < k
            exact hlt2
end Go.Proofs.YtihmdnbeonefcaaDoor

namespace Go.Proofs.YtihmdnbeonefcaaDoor
set_option linter.unusedVariables false
set_option linter.unusedSimpArgs false
open Go Go.RowKit Go.Sort

theorem below_drew13 (w : World) : Below w.heap.size w w.drew := ⟨rfl, rfl, rfl, Nat.le_refl _, fun _ _ => rfl⟩
theorem OwnI.lenf {w : World} {B k : Nat} {v : Value} {zs : List Int} (h : OwnI w B v zs) (hl : zs.length = k) : World.ownsRow w B 3 1 v k (zs.map (Value.int .i64)) := by
  unfold OwnI at h
  rw [hl] at h
  exact h
theorem blk_keep13 {w w' : World} {g : Nat} {o : Obj} {row : Option Nat} (h : w.heap[g]? = some o) (hg : w.grownBy w' row) (hne : ∀ q, row = some q → q ≠ g) : w'.heap[g]? = some o := (hg.block g (lt_of_block h) (fun e => hne g e.symm rfl)).trans h
theorem below_keep13 {n R : Nat} {w a a' : World} (h : Below n w a) (hg : a.grownBy a' (some R)) (hn : n ≤ R) (hna : n ≤ a.heap.size) : Below n w a' := below_app5 h hg (fun g e => by injection e with e; omega) hna
theorem step_append_ints {w : World} {ops : Array Oper} {o : Oper} {a : Act} {K : Act → World → Prop} {Q : Exit → Act → World → Prop} {E : Prop} (hgd : o.guard = none) (s x : Operand)
    (ho : o.op = .call { callee := .builtin .append, args := #[s, x], argTypes := #[22, 22] }) (B g0 : Nat) (hs : a.eval s = .slice (some ⟨g0, 0, none⟩) 0 0) (hB : B ≤ g0) (hg0 : w.heap[g0]? = some (.cells #[] 3 (0, 0)))
    (av : Option Addr) (n c1 : Nat) (xs : List Int) (hx : a.eval x = .slice av n c1) (h : IL w (.slice av n c1) xs) (hn : n ≤ 1000)
    (k : ∀ g c w', OwnI w' B (.slice (some ⟨g, 0, none⟩) n c) xs → w.grownBy w' (some g0) → K (a.put o.dst (.slice (some ⟨g, 0, none⟩) n c)) w') :
    if Region.wanted o (yielded ops a.tmps) = true then Oper.wp Tryd.prog o a w K Q else E := by
  have hw : Region.wanted o (yielded ops a.tmps) = true := by simp [Region.wanted, hgd]
  rw [if_pos hw]
  obtain ⟨g, c, w', hr, h2, h3⟩ := run_append_ints (w := w) o.type hB hg0 h hn
  unfold Oper.wp execOp
  simp only [ho, resolve, invoke, builtin, Sem.run_bind, Sem.run_pure, Result.andThen_ok, List.map_toArray, List.map_cons, List.map_nil, hs, hx, hr]
  exact k g c w' h2 h3

set_option maxRecDepth 100000 in
set_option maxHeartbeats 4000000 in
theorem raGreedy_any (N : Nat) (v v2 : Value) (ps : List (Int × Int)) (x : List Int) (w : World) (h : PairsAt w v ps) (hok : GOk (N : Int) ps) (hpl : ps.length ≤ 1000) (hs : IL w v2 x) (hsl : x.length ≤ 100) :
    Calls Tryd.prog 32 #[.agg #[.int .i64 (N : Int), v], v2] w fun e w' => ∃ (ys : List Int) (a : Option Addr) (n c : Nat), e = .returned (.slice a n c) ∧ OwnI w' w.heap.size (.slice a n c) ys ∧ ys.length = n ∧ n ≤ x.length ∧ Below w.heap.size w w' := by
  have hB := bgrow w (.cells #[.int .i64 (N : Int), v] 27)
  have H1 := hidIt (h.below hB)
  have H2 := hidIt (hs.below hB)
  obtain ⟨a, c, rfl, -⟩ := h.form
  obtain ⟨a2, c2, rfl, k2⟩ := (hs.below hB).ic
  have K2 := hidIt k2
  have HX := hidIt (heap_alloc_new w (.cells #[.int .i64 (N : Int), .slice a ps.length c] 27))
  have HB := hidIt hB
  have HPL := hidIt hpl
  have HSL := hidIt hsl
  have HOK := hidIt hok
  have hN : N ≤ 40 := by have := hok.n40; omega
  skip
  clear h hs hB hok hpl hsl k2
  go_enter Tryd.func32, Tryd.ntmps32
  go_upto_region 1 with (fail)
  generalize (w.alloc (.cells #[.int .i64 (N : Int), .slice a ps.length c] 27)) = w1 at *
  obtain ⟨P, hP⟩ : ∃ P, P = w.heap.size := ⟨_, rfl⟩
  have HP := hidIt hP
  rw [← hP] at HX ⊢
  clear hP
  obtain ⟨x0, x1⟩ := And.intro (cell_two0 HX.out) (cell_two1 HX.out)
  have lx := lt_of_block HX.out
  obtain ⟨X, hX⟩ : ∃ X, X = x.length := ⟨_, rfl⟩
  have HXX := hidIt hX
  rw [← hX] at H2 HSL ⊢
  have hX100 : X ≤ 100 := HSL.out
  clear hX x0 x1 lx
  go_wp2_with fail
  go_loopw [5, 6, 7] (fun v5 i _ wr => ∃ (k m : Nat) (b : Option Addr) (d : Nat) (xs : List Int), k ≤ X ∧ i = .int .i64 k ∧ v5 = .slice b m d ∧ m ≤ k ∧ Hid (xs.length = m) ∧ Hid (OwnI wr w1.heap.size (.slice b m d) xs) ∧ Hid (Below w1.heap.size w1 wr)) (fun _ i _ _ => X - (intOf i).toNat)
  case atStart => exact ⟨0, 0, none, 0, [], Nat.zero_le _, (by first | rfl | trivial), (by first | rfl | trivial), Nat.le_refl _, (rfl : ([] : List Int).length = 0), OwnI.nil _ _, Below.refl _ _⟩
  case round =>
    obtain ⟨k, m, b, d, xs, hk, rfl, rfl, hmk, HL, HO, HBr⟩ := hrel
    have hk0 : (0 : Int) ≤ (k : Int) := by omega
    by_cases hlt : k < X
    · have hkI : (k : Int) < (X : Int) := by omega
      have hkx : k < x.length := by have := HXX.out; omega
      obtain ⟨b1, o1, rfl, l1, hc1⟩ := (K2.out.go HBr.out).at_ hkx
      have p0 := hc1 k hkx
      generalize x[k] = z at *
      clear hc1 hkx
      have HI0 : Hid (IL wr (.slice b m d) xs) := HO.out.il
      have TB1 := hidIt (two_boxes wr (.cells #[] 3) (.cells #[.int .i64 z] 3))
      have TB2 := hidIt (two_boxes wr (.cells #[.int .i64 z] 3) (.cells #[] 3))
      have NB1 := hidIt (heap_alloc_new wr (.cells #[] 3))
      have BA1 : Hid (Below wr.heap.size wr (wr.alloc (.cells #[] 3)).drew) := (bgrow wr _).trans (Below.mono (below_drew13 _) (bgrow wr (.cells #[] 3)).size)
      have BA2 : Hid (Below wr.heap.size wr ((wr.alloc (.cells #[] 3)).alloc (.cells #[.int .i64 z] 3)).drew) := TB1.out.2.trans (Below.mono (below_drew13 _) TB1.out.2.size)
      have BA3 : Hid (Below wr.heap.size wr ((wr.alloc (.cells #[.int .i64 z] 3)).alloc (.cells #[] 3)).drew) := TB2.out.2.trans (Below.mono (below_drew13 _) TB2.out.2.size)
      have KM1 : Hid (∀ wz, ((wr.alloc (.cells #[] 3)).alloc (.cells #[.int .i64 z] 3)).drew.grownBy wz (some wr.heap.size) → wz.heap[wr.heap.size + 1]? = some (.cells #[.int .i64 z] 3)) := fun wz hg =>
        blk_keep13 (w := ((wr.alloc (.cells #[] 3)).alloc (.cells #[.int .i64 z] 3)).drew) TB1.out.1.2 hg (fun q e => by injection e with e; omega)
      have KM2 : Hid (∀ wz, ((wr.alloc (.cells #[.int .i64 z] 3)).alloc (.cells #[] 3)).drew.grownBy wz (some (wr.heap.size + 1)) → wz.heap[wr.heap.size]? = some (.cells #[.int .i64 z] 3)) := fun wz hg =>
        blk_keep13 (w := ((wr.alloc (.cells #[.int .i64 z] 3)).alloc (.cells #[] 3)).drew) TB2.out.1.1 hg (fun q e => by injection e with e; omega)
      go_upto_region 5 with (fail)
      go_region_law? (first
        | (refine step_append_ints rfl (.tmp 14) (.tmp 15) rfl wr.heap.size wr.heap.size ?_ ?_ NB1.out b m d xs ?_ (HI0.out.below BA1.out) ?_ ?_
           · go_simp
           · omega
           · go_simp
           · omega
           intro g5 c5 w5 ho5 hg5
           have HB5 := hidIt (below_keep13 BA1.out hg5 (Nat.le_refl _) BA1.out.size)
           have HG5 := hidIt (OwnI.news ho5 HL.out (.cells #[.int .i64 z] 3))
           have HM5 := hidIt (heap_alloc_new w5 (.cells #[.int .i64 z] 3))
           have HB6 := hidIt (HB5.out.trans (Below.mono (bgrow w5 (.cells #[.int .i64 z] 3)) HB5.out.size))
           have p5 := (Below.cell (p := ⟨b1, o1 + k, none⟩) HB5.out l1).trans p0)
        | (refine step_append_ints rfl (.tmp 14) (.tmp 15) rfl wr.heap.size wr.heap.size ?_ ?_ TB1.out.1.1 b m d xs ?_ (HI0.out.below BA2.out) ?_ ?_
           · go_simp
           · omega
           · go_simp
           · omega
           intro g5 c5 w5 ho5 hg5
           have HB6 := hidIt (below_keep13 BA2.out hg5 (Nat.le_refl _) BA2.out.size)
           have HG5 := hidIt (OwnI.lenf ho5 HL.out)
           have HM5 := hidIt (KM1.out _ hg5)
           have p5 := (Below.cell (p := ⟨b1, o1 + k, none⟩) HB6.out l1).trans p0)
        | (refine step_append_ints rfl (.tmp 14) (.tmp 15) rfl wr.heap.size (wr.heap.size + 1) ?_ ?_ TB2.out.1.2 b m d xs ?_ (HI0.out.below BA3.out) ?_ ?_
           · go_simp
           · omega
           · go_simp
           · omega
           intro g5 c5 w5 ho5 hg5
           have HB6 := hidIt (below_keep13 BA3.out hg5 (Nat.le_succ _) BA3.out.size)
           have HG5 := hidIt (OwnI.lenf ho5 HL.out)
           have HM5 := hidIt (KM2.out _ hg5)
           have p5 := (Below.cell (p := ⟨b1, o1 + k, none⟩) HB6.out l1).trans p0)
        | (refine step_append_one rfl (.tmp 16) (.tmp 21) elemI rfl wr.heap.size _ m _ ?_ HG5.out _ 1 ?_ #[.int .i64 z] 3 HM5.out rfl (one_of (by rfl)) ?_ HB6.out.size ?_
           · go_simp
           · go_simp
           · omega
           intro v8 w8 hown8 hg8 hbl8
           obtain ⟨g8, c8, rfl, -⟩ := owns_slice hown8))
      all_goals (
        go_simp
        have hOB : ∀ q, (Value.slice (some ⟨g5, 0, none⟩) m c5).ownBlock = some q → wr.heap.size ≤ q := fun q e => (owns_blk HG5.out q e).1
        have HQ8 := hidIt (OwnI.done HL.out hown8)
        have HB8 := hidIt (below_app5 HB6.out hg8 hOB HB6.out.size)
        have HO8 := hidIt (HO.out.go HB8.out)
        have HBr8 := hidIt (HBr.out.trans (Below.mono HB8.out HBr.out.size))
        have HXr := hidIt (blk_kept2 HX.out HBr8.out)
        have HPr := hidIt (H1.out.below HBr8.out)
        have HLr : Hid ((xs ++ [z]).length = m + 1) := by show _ = _; rw [List.length_append, HL.out]; rfl
        clear hown8 hg8 hbl8 hOB HB6 HG5 HM5 HB8
        clear HO HI0 TB1 TB2 NB1 BA1 BA2 BA3 KM1 KM2 p0 p5 l1
        obtain ⟨x0, x1⟩ := And.intro (cell_two0 HXr.out) (cell_two1 HXr.out)
        have lx := lt_of_block HXr.out
        generalize xs ++ [z] = zs at *
        go_wp2_with fail
        refine (raConflictFree_any N _ _ ps zs _ HPr.out HOK.out (by have := HPL.out; omega) HQ8.out.il (by have := HLr.out; omega)).mono ?_
        rintro e w9 ⟨rfl, hb9⟩
        have HQ9 := hidIt ((HQ8.out.go (hb9.mono (Nat.le_refl _))).base HBr.out.size)
        have HO9 := hidIt (HO8.out.go hb9)
        have HB9 := hidIt (HBr8.out.trans (Below.mono hb9 HBr8.out.size))
        clear hb9 x0 x1 lx HXr HPr HQ8 HO8 HBr8
        generalize (setB N zs && cfX ps (memB zs)) = cf at *
        cases cf
        · go_wp2_with fail
          go_roundw
          case rel => exact ⟨k + 1, m, b, d, xs, by omega, by go_num, (by first | rfl | trivial), by omega, HL.out, HO9.out, HB9.out⟩
          case measure => simp [intOf]; omega
        · go_wp2_with fail
          go_roundw
          case rel => exact ⟨k + 1, m + 1, _, c8, zs, by omega, by go_num, (by first | rfl | trivial), by omega, HLr.out, HQ9.out, HB9.out⟩
          case measure => simp [intOf]; omega)
    · obtain rfl : k = X := by omega
      have hkI : ¬ (k : Int) < (k : Int) := by omega
      have HMK : Hid (m ≤ x.length) := by show _ ≤ _; have := HXX.out; omega
      have HOF := hidIt (HO.out.base (B' := w.heap.size) HB.out.size)
      have HBF := hidIt (HB.out.trans (Below.mono HBr.out HB.out.size))
      go_wp2_with fail
      go_ret
      exact ⟨xs, b, m, d, rfl, HOF.out, HL.out, HMK.out, HBF.out⟩
end Go.Proofs.YtihmdnbeonefcaaDoor

namespace Go.Proofs.YtihmdnbeonefcaaDoor
set_option linter.unusedVariables false
set_option linter.unusedSimpArgs false
open Go Go.RowKit Go.Sort

theorem growS_len {N : Nat} {ps : List (Int × Int)} {x l : List Int} (h : GrowS N ps x l) : l.length ≤ N := by
  by_cases e : growE N ps x = 0
  · obtain ⟨Z, -, rfl⟩ := h.good e
    exact setL_len N Z
  · rw [h.bad e]
    exact Nat.zero_le _
theorem shrinkS_len {N : Nat} {ps : List (Int × Int)} {x l : List Int} (h : ShrinkS N ps x l) : l.length ≤ N := by
  by_cases e : shrinkE N ps x = 0
  · obtain ⟨Z, -, rfl⟩ := h.good e
    exact setL_len N Z
  · rw [h.bad e]
    exact Nat.zero_le _

set_option maxRecDepth 100000 in
set_option maxHeartbeats 8000000 in
theorem grows_walk (v1 : Value) (raw : List Int) (lv : Value) (zs : List Int) (w : World) (h1 : IL w v1 raw) (hz : IntsAt w w.heap.size lv zs) (hT : Tab w) :
    Calls Tryd.prog 4 #[v1, lv] w fun e w' => e = .returned (.bool true) ∧ Below w.heap.size w w' := by
  have HT := hidIt hT
  have HZ := hidIt hz
  have H1 := hidIt h1
  obtain ⟨ra, rc, rfl, -⟩ := h1.form
  obtain ⟨R, hR⟩ : ∃ R, R = raw.length := ⟨_, rfl⟩
  have HR := hidIt hR
  rw [← hR] at H1 ⊢
  clear hz hT h1 hR
  go_enter Tryd.func4, Tryd.ntmps4
  by_cases hrw : 60 < R
  · have hrI : (60 : Int) < (R : Int) := by omega
    go_wp2_with fail
    go_ret
    exact ⟨rfl, Below.refl _ _⟩
  have hrI : ¬ (60 : Int) < (R : Int) := by omega
  go_wp2_with fail
  refine (new_any lv zs w.heap.size w HZ.out (Nat.le_refl _)).mono ?_
  rintro e w1 ⟨zs', rfl, hs1, o1, rfl⟩
  have HS1 := hidIt hs1
  have HB1 := hidIt (bgrow w o1)
  have hsz1 : w.heap.size < (w.alloc o1).heap.size := hs1.lt
  clear hs1
  generalize w.alloc o1 = w1 at *
  go_wp2_with fail
  refine (kGraph_any 8 (by decide) _ _ _ _ w1 HS1.out).mono ?_
  rintro e w2 ⟨N, ps, ga, gc, k2, rfl, hN, hok, hpl, hop, hs2, hg2⟩
  have HOK := hidIt hok
  have HPS := hidIt hpl
  have hgr := bgrow w2 (.cells #[.int .i64 (N : Int), .slice ga ps.length gc] 27)
  have HB2 := hidIt (below_read13 HB1.out hg2 (Nat.le_of_lt hsz1))
  have HW3 : Hid (LR w w2.heap.size N ga gc ps zs' (w2.alloc (.cells #[.int .i64 (N : Int), .slice ga ps.length gc] 27))) :=
    ⟨heap_alloc_new w2 _, (hop.mono (by omega)).below hgr, ⟨_, hs2.grow (only_of_below hgr none)⟩, HT.out, HB2.out.trans (Below.mono hgr HB2.out.size), hs2.lt⟩
  clear hok hpl hop hs2 hg2 hgr HB2 HS1 HB1
  go_upto_region 5 with (fail)
  generalize (w2.alloc (.cells #[.int .i64 (N : Int), .slice ga ps.length gc] 27)) = w3 at *
  generalize w2.heap.size = G at *
  have x0 := HW3.out.c0
  have x1 := HW3.out.c1
  have lx := HW3.out.l
  obtain ⟨k3, hs3⟩ := HW3.out.s
  have HS3 := hidIt hs3
  have hb3 := HW3.out.sz
  clear hs3
  go_wp2_with fail
  refine (kPart_any N (by omega) _ _ _ _ w3 HS3.out).mono ?_
  rintro e w4 ⟨l, sa, sc, k4, rfl, hasc, hll, hos, hs4, hg4⟩
  have HW4 := hidIt (HW3.out.read hs4 hg4)
  have HI4 := hidIt hos.il
  have HK4 := hidIt (ILn.own hos hb3)
  have HLL : Hid ((ints l).length = l.length) := ints_len l
  clear hasc hos hs4 hg4 HS3 x0 x1 lx HW3
  generalize ints l = al at *
  generalize l.length = la at *
  have hla8 : la ≤ 8 := by omega
  have x0 := HW4.out.c0
  have x1 := HW4.out.c1
  have lx := HW4.out.l
  go_wp2_with fail
  refine (raGreedy_any N _ _ ps al w4 HW4.out.lw.p HOK.out HPS.out HI4.out (by have := HLL.out; omega)).mono ?_
  rintro e w5 ⟨ys, fa, fn, fc, rfl, hof, hyl, hfn, hb5⟩
  have HW5 := hidIt (HW4.out.go hb5)
  have HK5 := hidIt (HK4.out.keep (only_of_below hb5 _))
  have HF5 := hidIt (ILn.own hof HW4.out.sz)
  have HYL := hidIt hyl
  have HFN : Hid (fn ≤ 8) := by show _ ≤ _; have := HLL.out; omega
  have HR5 := hidIt (ILn.old (b := w.heap.size) H1.out HW5.out.b rfl)
  clear hof hb5 HK4 HI4 HW4 x0 x1 lx hyl hfn
  go_upto_region 7 with (fail)
  have HWd := hidIt (HW5.out.go (below_drew13 w5))
  obtain ⟨k5, hsa⟩ := HWd.out.s
  have HSa := hidIt hsa
  have hszd := HWd.out.sz
  have x0 := HWd.out.c0
  have x1 := HWd.out.c1
  have lx := HWd.out.l
  clear hsa
  have hmin : min (N : Int) 2 = ((min N 2 : Nat) : Int) := by omega
  have hmn : min N 2 ≤ 40 := by omega
  go_region_law (first
    | (go_simp; go_at_call 12; refine (kPart_any (min N 2) hmn _ _ _ _ _ HSa.out).mono ?_; rintro e w7 ⟨p1, a1, c1, k7, rfl, has1, hl1, ho1, hs7, hg7⟩
       have HSb := hidIt hs7
       have HG7 := hidIt hg7
       have HP7 := hidIt (ILn.own ho1 hszd)
       have hsz7 : w.heap.size < w7.heap.size := Nat.lt_of_lt_of_le hszd hg7.size
       have HW7 := hidIt (HWd.out.read hs7 hg7)
       have y0 := HW7.out.c0
       have y1 := HW7.out.c1
       have ly := HW7.out.l
       clear HSa hs7 hg7 ho1 has1)
    | (go_simp; go_at_call 12; refine (kPart_any N (by omega) _ _ _ _ _ HSb.out).mono ?_; rintro e w8 ⟨p2, a2, c2, k8, rfl, has2, hl2, ho2, hs8, hg8⟩
       have HSc := hidIt hs8
       have HG8 := hidIt hg8
       have HO8 := hidIt ho2
       have hsz8 : w7.heap.size ≤ w8.heap.size := hg8.size
       clear HSb hs8 hg8 ho2 has2 y0 y1 ly)
    | (go_simp; go_at_call 13; refine (sn_nat 12 (by decide) (by decide) _ _ _ _ _ HSc.out).mono ?_; rintro e w9 ⟨z, k9, rfl, hz9, hs9, hg9⟩
       have hwz : IntKind.i64.wrap ((z : Int) - 2) = (z : Int) - 2 := IntWalk.i64_in _ (by omega)
       have hgr9 := bgrow w9 (.cells #[.int .i64 ((z : Int) - 2)] 3)
       have HG9 := hidIt (only_trans (only_trans HG8.out hg9) (only_of_below hgr9 (some w.heap.size)))
       have HS9 := hidIt (hs9.grow (only_of_below hgr9 none))
       have HN9 := hidIt (OwnI.news (HO8.out.read hg9 hsz7) (ints_len p2) (.cells #[.int .i64 ((z : Int) - 2)] 3))
       have hb9 : w7.heap.size ≤ (w9.alloc (.cells #[.int .i64 ((z : Int) - 2)] 3)).heap.size := Nat.le_trans hsz8 (Nat.le_trans hg9.size hgr9.size)
       clear HSc hs9 hg9 hgr9 hz9 HG8 HO8)
    | (refine step_append_one rfl (.tmp 44) (.tmp 48) elemI rfl w7.heap.size (.slice a2 p2.length c2) p2.length _ (by go_simp) HN9.out _ 1 (by go_simp) #[.int .i64 ((z : Int) - 2)] 3 (heap_alloc_new _ _) rfl (one_of (by rfl)) (by omega) hb9 ?_
       intro v10 w10 hown10 hg10 hbl10
       obtain ⟨g10, c10, rfl, -⟩ := owns_slice hown10))
  all_goals (
    go_simp
    have HGA : Hid (w7.grownBy w10 (some w.heap.size)) := ⟨hg10.os.trans HG9.out.os, hg10.tape.trans HG9.out.tape, hg10.output.trans HG9.out.output, Nat.le_trans HG9.out.size hg10.size, fun j hj hne => (hg10.block j (Nat.lt_of_lt_of_le hj HG9.out.size) (fun e => by have := (owns_blk HN9.out j e.symm).1; omega)).trans (HG9.out.block j hj hne)⟩
    have HGT := hidIt (only_trans HG7.out HGA.out)
    have HS10 := hidIt (HS9.out.kept hg10 fun g e => by have := (owns_blk HN9.out g e).1; omega)
    have HW10 := hidIt (HW7.out.read HS10.out HGA.out)
    have kr : Hid (isSome13 w.heap.size (.slice ra R rc) w10) := ⟨ra, R, rc, raw, rfl, ILn.keep (w := w5.drew) HR5.out HGT.out, by have := HR.out; omega⟩
    have ks : Hid (isSome13 w.heap.size (.slice sa la sc) w10) := ⟨sa, la, sc, al, rfl, ILn.keep (w := w5.drew) HK5.out HGT.out, by have := HLL.out; omega⟩
    have kf : Hid (isSome13 w.heap.size (.slice fa fn fc) w10) := ⟨fa, fn, fc, ys, rfl, ILn.keep (w := w5.drew) HF5.out HGT.out, by have := HYL.out; have := HFN.out; omega⟩
    have kp : Hid (isSome13 w.heap.size (.slice a1 p1.length c1) w10) := ⟨a1, p1.length, c1, ints p1, rfl, HP7.out.keep HGA.out, by rw [ints_len]; omega⟩
    have kq : Hid (isSome13 w.heap.size (.slice (some ⟨g10, 0, none⟩) (p2.length + 1) c10) w10) := ⟨_, _, _, ints p2 ++ [(z : Int) - 2], rfl, ILn.own (OwnI.done (ints_len p2) hown10) hsz7, by rw [List.length_append, ints_len]; show p2.length + 1 ≤ 100; omega⟩
    have HROW : Hid (isRow13 w.heap.size 6 (.slice (some ⟨w10.heap.size, 0, none⟩) 6 6) (w10.alloc (.cells #[.slice ra R rc, .slice sa la sc, .slice fa fn fc, .slice a1 p1.length c1, .slice (some ⟨g10, 0, none⟩) (p2.length + 1) c10, .slice none 0 0] 22))) :=
      row13_blk (us := [.slice ra R rc, .slice sa la sc, .slice fa fn fc, .slice a1 p1.length c1, .slice (some ⟨g10, 0, none⟩) (p2.length + 1) c10, .slice none 0 0]) (b := w.heap.size) (w := w10) HW10.out.sz (fun u hu => by
        simp only [List.mem_cons, List.not_mem_nil, or_false] at hu
        rcases hu with rfl | rfl | rfl | rfl | rfl | rfl
        · exact kr.out
        · exact ks.out
        · exact kf.out
        · exact kp.out
        · exact kq.out
        · exact ⟨none, 0, 0, [], rfl, ILn.nil _ _, by decide⟩) 22
    have HW11 := hidIt ((HW10.out.go (bgrow w10 (.cells #[.slice ra R rc, .slice sa la sc, .slice fa fn fc, .slice a1 p1.length c1, .slice (some ⟨g10, 0, none⟩) (p2.length + 1) c10, .slice none 0 0] 22))).lw)
    clear hown10 hg10 hbl10 HGA HGT HS10 HW10 kr ks kf kp kq HG7 HG9 HS9 HN9 hb9 hsz7 hsz8 HP7 HW7 hwz hl1 hl2 hmin hmn HWd x0 x1 lx hszd HR5 HK5 HF5 HW5 HYL HFN HLL HR H1 HT HZ
    go_upto_region 8 with (fail)
    generalize (w10.alloc (.cells #[.slice ra R rc, .slice sa la sc, .slice fa fn fc, .slice a1 p1.length c1, .slice (some ⟨g10, 0, none⟩) (p2.length + 1) c10, .slice none 0 0] 22)) = w11 at *
    generalize w10.heap.size = Y at *
    obtain ⟨g', e, hgl, -, hrow⟩ := HROW.out
    injection e with e
    injection e with e
    injection e with e
    subst e
    have HRO := hidIt hrow
    have HGL := hidIt hgl
    clear hrow hgl HROW
    go_loopw [10, 11, 12, 13, 14, 15, 16, 17, 18, 52] (fun _ _ _ _ _ _ _ _ _ i wr => ∃ k : Nat, k ≤ 6 ∧ i = .int .i64 k ∧ Hid (Below w11.heap.size w11 wr)) (fun _ _ _ _ _ _ _ _ _ i _ => 6 - (intOf i).toNat)
    case atStart => exact ⟨0, by omega, (by first | rfl | trivial), Below.refl _ _⟩
    case round =>
      obtain ⟨k, hk, rfl, HB⟩ := hrel
      have hk0 : (0 : Int) ≤ (k : Int) := by omega
      have HWR := hidIt (HW11.out.go HB.out)
      by_cases hlt : k < 6
      · have hkI : (k : Int) < 6 := by omega
        obtain ⟨u, hcu, xa, xn, xc, x, rfl, hix, hxl⟩ := HRO.out k hlt
        have cu2 := (Below.cell (p := ⟨Y, k, none⟩) HB.out HGL.out).trans hcu
        have lo2 := Nat.lt_of_lt_of_le HGL.out HB.out.size
        have HIwr := hidIt (hix.il.below HB.out)
        have HXL := hidIt hxl
        clear hcu hix hxl
        have x0 := HWR.out.c0
        have x1 := HWR.out.c1
        have lx := HWR.out.l
        go_wp2_with fail
        refine (qGrow_any N _ _ ps x wr HWR.out.p HOK.out (by have := HPS.out; omega) HIwr.out (by have := HXL.out; omega) HWR.out.t).mono ?_
        rintro e w12 ⟨v', lq, rfl, hgs, ho, hb⟩
        have HW12 := hidIt (HWR.out.go hb)
        have HIw12 := hidIt (HIwr.out.below hb)
        have HSG := hidIt hgs
        obtain ⟨qa, qc, rfl, -⟩ := ho.il.form
        have HA12 := hidIt ho.il
        have HB12 := hidIt (HB.out.trans (Below.mono hb HB.out.size))
        clear hgs ho hb cu2 lo2 x0 x1 lx HWR HIwr
        have x0 := HW12.out.c0
        have x1 := HW12.out.c1
        have lx := HW12.out.l
        go_wp2_with fail
        refine (raGrow_any N _ _ ps x w12 HW12.out.p HOK.out HPS.out HIw12.out (by have := HXL.out; omega)).mono ?_
        rintro e w13 ⟨ba, bc, lb, rfl, hgs, hi, hb⟩
        have HW13 := hidIt (HW12.out.go hb)
        have HIw13 := hidIt (HIw12.out.below hb)
        obtain rfl := hgs.uniq HSG.out
        have HLG := hidIt (growS_len hgs)
        have HA13 := hidIt (HA12.out.below hb)
        have HC13 := hidIt hi
        have HB13 := hidIt (HB12.out.trans (Below.mono hb HB12.out.size))
        generalize growE N ps x = eg at *
        clear hgs hi hb x0 x1 lx HW12 HIw12 HA12 HB12 HSG
        have x0 := HW13.out.c0
        have x1 := HW13.out.c1
        have lx := HW13.out.l
        go_wp2_with fail
        refine (qShrink_any N _ _ ps x w13 HW13.out.p HOK.out (by have := HPS.out; omega) HIw13.out (by have := HXL.out; omega) HW13.out.t).mono ?_
        rintro e w14 ⟨v', ls, rfl, hgs, ho, hb⟩
        have HW14 := hidIt (HW13.out.go hb)
        have HIw14 := hidIt (HIw13.out.below hb)
        have HSG := hidIt hgs
        obtain ⟨ta, tc, rfl, -⟩ := ho.il.form
        have HA14 := hidIt (HA13.out.below hb)
        have HC14 := hidIt (HC13.out.below hb)
        have HD14 := hidIt ho.il
        have HB14 := hidIt (HB13.out.trans (Below.mono hb HB13.out.size))
        clear hgs ho hb x0 x1 lx HW13 HIw13 HA13 HC13 HB13
        have x0 := HW14.out.c0
        have x1 := HW14.out.c1
        have lx := HW14.out.l
        go_wp2_with fail
        refine (raShrink_any N _ _ ps x w14 HW14.out.p HOK.out HPS.out HIw14.out (by have := HXL.out; omega)).mono ?_
        rintro e w15 ⟨da, dc, lt, rfl, hgs, hi, hb⟩
        have HW15 := hidIt (HW14.out.go hb)
        have HIw15 := hidIt (HIw14.out.below hb)
        obtain rfl := hgs.uniq HSG.out
        have HLS := hidIt (shrinkS_len hgs)
        have HA15 := hidIt (HA14.out.below hb)
        have HC15 := hidIt (HC14.out.below hb)
        have HD15 := hidIt (HD14.out.below hb)
        have HE15 := hidIt hi
        have HB15 := hidIt (HB14.out.trans (Below.mono hb HB14.out.size))
        generalize shrinkE N ps x = es at *
        clear hgs hi hb x0 x1 lx HW14 HIw14 HA14 HC14 HD14 HB14 HSG
        go_wp2_with fail
        refine (kInts_any _ _ lb lb w15 HA15.out HC15.out (by have := HLG.out; omega) (by have := HLG.out; omega)).mono ?_
        rw [decide_eq_true rfl]
        rintro e w16 ⟨rfl, hb⟩
        have HD16 := hidIt (HD15.out.below hb)
        have HE16 := hidIt (HE15.out.below hb)
        have HB16 := hidIt (HB15.out.trans (Below.mono hb HB15.out.size))
        clear hb HD15 HE15 HA15 HC15 HB15
        go_wp2_with fail
        refine (kInts_any _ _ lt lt w16 HD16.out HE16.out (by have := HLS.out; omega) (by have := HLS.out; omega)).mono ?_
        rw [decide_eq_true rfl]
        rintro e w17 ⟨rfl, hb⟩
        have HB17 := hidIt (HB16.out.trans (Below.mono hb HB16.out.size))
        clear hb
        go_wp2_with fail
        go_roundw
        case rel => exact ⟨k + 1, by omega, by go_num, HB17.out⟩
        case measure => simp [intOf]; omega
      · obtain rfl : k = 6 := by omega
        have hkI : ¬ ((6 : Nat) : Int) < 6 := by decide
        go_wp2_with fail
        refine (awake13_any _ HWR.out.t).mono ?_
        rintro e w30 ⟨rfl, hb⟩
        have HBF := hidIt (HWR.out.b.trans (Below.mono hb HWR.out.b.size))
        clear hb
        go_wp2_with fail
        go_ret
        exact ⟨rfl, HBF.out⟩)
end Go.Proofs.YtihmdnbeonefcaaDoor
