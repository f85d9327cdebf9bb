/- Components: for every graph whose components the order's own search can list. -/
import Derived.Test.YtcelijjohcfhkaaDoorG1C
import Derived.Test.YtcelijjohcfhkaaDoorG0U
namespace Go.Proofs.YtcelijjohcfhkaaDoor
set_option linter.unusedVariables false
set_option linter.unusedSimpArgs false
open Go Go.RowKit Go.Sort

theorem valFrom_of : ∀ (xs : List (Int × Int)) (n : Int) (p : Option (Int × Int)), (∀ x ∈ xs, (0 ≤ x.1 ∧ x.1 < n) ∧ (0 ≤ x.2 ∧ x.2 < n)) → xs.Pairwise (fun a b => geP a b = false) → (∀ y, p = some y → ∀ x ∈ xs, geP y x = false) → valFrom n p xs = 0
  | [], n, p, _, _, _ => by cases p <;> rfl
  | x :: r, n, p, h1, h2, h3 => by
    rw [valFrom_cons]
    obtain ⟨⟨a1, a2⟩, a3, a4⟩ := h1 x (List.mem_cons_self ..)
    have e1 : (ixB x.1 n && ixB x.2 n) = true := by unfold ixB; simp; omega
    rw [if_neg (by rw [e1]; decide)]
    have e2 : geO p x = false := by
      cases p with
      | none => rfl
      | some y => exact h3 y rfl x (List.mem_cons_self ..)
    rw [if_neg (by rw [e2]; decide)]
    rw [List.pairwise_cons] at h2
    exact valFrom_of r n (some x) (fun y hy => h1 y (List.mem_cons_of_mem _ hy)) h2.2 (fun y e z hz => by injection e with e; subst e; exact h2.1 z hz)
theorem valE_of {n : Int} {ps : List (Int × Int)} (h : GOk n ps) : valE n ps = 0 := by
  unfold valE
  have h0 := h.n0
  have h1 := h.n40
  rw [if_neg (by omega)]
  exact valFrom_of ps n none h.ix h.up (fun y e => by cases e)
theorem vN_of {n : Int} {ps : List (Int × Int)} (h : GOk n ps) : vN n ps = n := by unfold vN; rw [if_pos (valE_of h)]
theorem vL_of {n : Int} {ps : List (Int × Int)} (h : GOk n ps) : vL n ps = ps := by unfold vL; rw [if_pos (valE_of h)]
theorem rev_ok {N : Nat} {ps : List (Int × Int)} (h : GOk (N : Int) ps) : GOk (N : Int) (revL N ps) :=
  ⟨h.n0, h.n40, fun p hp => by
    obtain ⟨h1, h2⟩ := mem_revL.1 hp
    exact ⟨h1, (h.ix _ h2).1⟩, (revL_lt h.lt N).imp fun {a b} k => (geP_lt a b).2 k⟩
theorem revL_len (N : Nat) (ps : List (Int × Int)) (h : GOk (N : Int) ps) : (revL N ps).length = ps.length := by
  rw [← srt_swap h, srt_len, List.length_map]
theorem att_lt {N : Nat} {ps : List (Int × Int)} (h : GOk (N : Int) ps) (i j : Nat) (hb : (attB ps i).getLsbD j = true) : j < N := by
  rw [attB_bit ps i j (fun p hp => ⟨(h.ix p hp).2.1, by have := (h.ix p hp).2.2; have := h.n40; omega⟩)] at hb
  have := (h.ix _ (of_decide_eq_true hb)).2.2
  simp only at this
  omega

/-- The components in their order, as the program finds them. -/
def CompOk (N : Nat) (ps : List (Int × Int)) (l : List (BitVec 64)) : Prop :=
  ∃ sorted : List (BitVec 64), sorted.Perm (runF (attB ps) N N).comps ∧ sorted.Pairwise (fun x y => ctzB x < ctzB y) ∧ orderF (attB (revL N ps)) sorted.length sorted 0#64 = some l

theorem infoLL : (Tryd.prog.info? 25).map (fun i => (i.zero, i.size, i.bytes)) = some (some (.slice none 0 0), 1, 24) := by kernel_rfl
theorem elemLL : ElemOf 32 25 1 24 := elem_of Tryd.underlying32 infoLL rfl (by decide) (by decide)
/-- A list of lists that the call owns, its lists too. -/
def OwnLL (w : World) (B : Nat) (v : Value) (zss : List (List Int)) : Prop := ∃ vals : List Value, w.ownsRow B 25 1 v zss.length vals ∧ vals.length = zss.length ∧ ∀ i (h : i < zss.length), ∃ u, vals[i]? = some u ∧ OwnI w B u zss[i]
theorem OwnLL.nil (w : World) (B : Nat) : OwnLL w B (.slice none 0 0) [] := ⟨[], World.ownsRow_nil w B _ _, rfl, fun i h => by cases h⟩
theorem OwnLL.go {w w' : World} {B : Nat} {v : Value} {zss : List (List Int)} (h : OwnLL w B v zss) (hb : Below w.heap.size w w') : OwnLL w' B v zss := by
  obtain ⟨vals, h1, h2, h3⟩ := h
  refine ⟨vals, owns_kept h1 fun g e => hb.block g (owns_blk h1 g e).2, h2, fun i hi => ?_⟩
  obtain ⟨u, hu, ho⟩ := h3 i hi
  exact ⟨u, hu, ho.go hb⟩
theorem OwnLL.ll {w : World} {B : Nat} {v : Value} {zss : List (List Int)} (h : OwnLL w B v zss) : LL w v zss := by
  obtain ⟨vals, h1, h2, h3⟩ := h
  rcases h1.2 with ⟨rfl, h0⟩ | ⟨g, cap, cur, rfl, hB, hg, hnc, hcm, -, -⟩
  · exact .inl ⟨rfl, List.eq_nil_of_length_eq_zero h0⟩
  · refine .inr ⟨g, 0, cap, rfl, hnc, hcm, lt_of_block hg, fun i hi => ?_⟩
    obtain ⟨u, hu, ho⟩ := h3 i hi
    rw [Nat.zero_add]
    exact ⟨u, owns_cell h1 rfl i u hu, ho.il⟩
/-- The row's block is none of its lists' blocks: they hold other things. -/
theorem blk_types {w : World} {B B' : Nat} {e e' : TypeId} {k k' : Nat} {v v' : Value} {n n' : Nat} {xs xs' : List Value} (h : w.ownsRow B e k v n xs) (h' : w.ownsRow B' e' k' v' n' xs') (hne : e ≠ e') {g : Nat} (hg : v.ownBlock = some g) (hg' : v'.ownBlock = some g) : False := by
  rcases h.2 with ⟨rfl, -⟩ | ⟨b, cap, cur, rfl, -, hb, -⟩
  · cases hg
  · rcases h'.2 with ⟨rfl, -⟩ | ⟨b', cap', cur', rfl, -, hb', -⟩
    · cases hg'
    · have e1 : b = g := by injection hg
      have e2 : b' = g := by injection hg'
      subst e1 e2
      rw [hb] at hb'
      injection hb' with hb'
      injection hb' with _ ht
      exact hne ht
theorem OwnLL.app {w w8 : World} {B : Nat} {v v8 u : Value} {zss : List (List Int)} {z : List Int} (h : OwnLL w B v zss) (hz : OwnI w B u z) (vals : List Value) (hv : w.ownsRow B 25 1 v zss.length vals) (hvl : vals.length = zss.length) (hvs : ∀ i (h : i < zss.length), ∃ u, vals[i]? = some u ∧ OwnI w B u zss[i])
    (hown : w8.ownsRow B 25 1 v8 (zss.length + 1) (vals ++ [u])) (hg : w.grownBy w8 v.ownBlock) : OwnLL w8 B v8 (zss ++ [z]) := by
  have hk : ∀ u z, OwnI w B u z → OwnI w8 B u z := fun u z ho => owns_kept ho fun g e => hg.block g (owns_blk ho g e).2 (fun e2 => blk_types hv ho (by decide) e2.symm e)
  refine ⟨vals ++ [u], by rw [List.length_append]; exact hown, by rw [List.length_append, List.length_append, hvl]; rfl, fun i hi => ?_⟩
  by_cases hi' : i < zss.length
  · obtain ⟨u', hu', ho'⟩ := hvs i hi'
    refine ⟨u', by rw [List.getElem?_append_left (by omega)]; exact hu', ?_⟩
    rw [List.getElem_append_left hi']
    exact hk _ _ ho'
  · have e : i = zss.length := by rw [List.length_append] at hi; simp at hi; omega
    subst e
    refine ⟨u, by rw [List.getElem?_append_right (by omega), hvl, Nat.sub_self]; rfl, ?_⟩
    rw [List.getElem_append_right (Nat.le_refl _)]
    simp only [Nat.sub_self, List.getElem_cons_zero]
    exact hk _ _ hz

theorem owns_mono {w : World} {B B' : Nat} {e : TypeId} {k : Nat} {v : Value} {n : Nat} {xs : List Value} (h : w.ownsRow B e k v n xs) (hB : B' ≤ B) : w.ownsRow B' e k v n xs := by
  refine ⟨h.1, ?_⟩
  rcases h.2 with h0 | ⟨g, cap, cur, hv, hg, h2⟩
  · exact .inl h0
  · exact .inr ⟨g, cap, cur, hv, Nat.le_trans hB hg, h2⟩
/-- The lists of a list of sets. -/
def listsOf (l : List (BitVec 64)) : List (List Int) := l.map fun c => ints (members c)

/-! Relations of the drawn regions. -/
namespace Own
def isSets (L N : Nat) (f : Nat → BitVec 64) : Value → World → Prop := fun v w => ∃ b : Nat, v = .slice (some ⟨b, 0, none⟩) N N ∧ L ≤ b ∧ SetsAt w b N f
theorem isSets_up (L N : Nat) (f : Nat → BitVec 64) : GoesUp (isSets L N f) := fun _ _ _ hg ⟨b, h1, h0, h2⟩ => ⟨b, h1, h0, h2.go hg⟩
def isPl (L N : Nat) (f : Nat → Int) : Value → World → Prop := fun v w => ∃ b : Nat, v = .slice (some ⟨b, 0, none⟩) N N ∧ L ≤ b ∧ IntsIn w b N f
theorem isPl_up (L N : Nat) (f : Nat → Int) : GoesUp (isPl L N f) := fun _ _ _ hg ⟨b, h1, h0, h2⟩ => ⟨b, h1, h0, blk_kept2 h2 hg⟩
def isNew (L : Nat) (cs : Array Value) (t : TypeId) : Value → World → Prop := fun v w => ∃ nb : Nat, v = .pointer (some ⟨nb, 0, none⟩) ∧ L ≤ nb ∧ w.heap[nb]? = some (.cells cs t (0, 0))
theorem isNew_up (L : Nat) (cs : Array Value) (t : TypeId) : GoesUp (isNew L cs t) := fun _ _ _ hg ⟨nb, h1, h0, h2⟩ => ⟨nb, h1, h0, blk_kept2 h2 hg⟩
def isGr (n : Int) (ps : List (Int × Int)) : Value → World → Prop := fun v w => ∃ (a : Option Addr) (c : Nat), v = .agg #[.int .i64 n, .slice a ps.length c] ∧ PairsAt w (.slice a ps.length c) ps
theorem isGr_up (n : Int) (ps : List (Int × Int)) : GoesUp (isGr n ps) := fun _ _ _ hg ⟨a, c, h1, h2⟩ => ⟨a, c, h1, h2.below hg⟩
theorem isGr_use {n : Int} {ps : List (Int × Int)} {a : Option Addr} {c : Nat} {w : World} (h : isGr n ps (.agg #[.int .i64 n, .slice a ps.length c]) w) : PairsAt w (.slice a ps.length c) ps := by
  obtain ⟨a', c', he, hp⟩ := h
  injection he with he
  have he2 : (Value.slice a ps.length c) = Value.slice a' ps.length c' := (List.cons.inj (List.cons.inj (congrArg Array.toList he)).2).1
  rw [he2]
  exact hp
def isUs (l : List (BitVec 64)) : Value → World → Prop := fun v w => ∃ (a : Option Addr) (c : Nat), v = .slice a l.length c ∧ UC w a l
theorem isUs_up (l : List (BitVec 64)) : GoesUp (isUs l) := fun _ _ _ hg ⟨a, c, h1, h2⟩ => ⟨a, c, h1, h2.go hg⟩
end Own
theorem made_zeroI (n : Nat) : madeCells #[.int .i64 0] n = cellsI n (fun _ => 0) := by
  apply Array.ext_getElem?
  intro i
  by_cases h : i < n
  · rw [cellsI_get h]
    unfold madeCells
    simp [h]
    rw [show i % 1 = 0 from Nat.mod_one i]
    rfl
  · have h1 : (cellsI n (fun _ => 0))[i]? = none := Array.getElem?_eq_none (by rw [cellsI_size]; omega)
    rw [h1]
    unfold madeCells
    simp
    omega
theorem make_ints (n : Nat) (hn : n ≤ 1000) (w : World) : (Instr.makeSlice 25 (.int .i64 (n : Int)) (.int .i64 (n : Int))).run Tryd.prog w = .ok (.slice (some ⟨w.heap.size, 0, none⟩) n n) (w.alloc (.cells (cellsI n (fun _ => 0)) 3)) := by
  obtain ⟨i0, hi, hz0, hz1, hz2⟩ := info_parts infoI9
  have hr := run_make (P := Tryd.prog) w 25 3 i0 _ Tryd.underlying25 hi hz0 .i64 .i64 (n : Int) (n : Int) (by omega) (by omega) (by rw [hz2]; omega) (by omega)
  rw [hz1] at hr
  simp only [Int.toNat_natCast, Nat.mul_one] at hr
  rw [← made_zeroI]
  exact hr
end Go.Proofs.YtcelijjohcfhkaaDoor
