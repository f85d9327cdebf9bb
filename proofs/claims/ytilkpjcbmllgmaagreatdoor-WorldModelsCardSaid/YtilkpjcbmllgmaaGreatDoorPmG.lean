/- keep.SpoiltFormula: what it leaves. Formulas outside the reader's block, as values that a drawn region makes; rows of them. keep.Nodes, Levels, short and SmallFormula, at formulas of any size. The law WorldModels: the call answers true for every list of names, every formula and every list of numbers. The package's table of signs: what the row's condition gives the walks, and the world of the witness. -/
import Derived.Test.YtilkpjcbmllgmaaGreatDoorCards
import Derived.Test.YtilkpjcbmllgmaaGreatDoorTie
import Derived.ProofKit
import Derived.OpenShut
import Derived.Deep.DeepHandedRow
import Derived.Lib.LaidTab
import Derived.Test.YtilkpjcbmllgmaaGreatDoorPmA
import Derived.Test.YtilkpjcbmllgmaaGreatDoorPmB
import Derived.Test.YtilkpjcbmllgmaaGreatDoorPmC
import Derived.Test.YtilkpjcbmllgmaaGreatDoorPmD
import Derived.Test.YtilkpjcbmllgmaaGreatDoorPmE
import Derived.Test.YtilkpjcbmllgmaaGreatDoorPmF

namespace Go.Proofs.YtilkpjcbmllgmaaGreatDoor
set_option linter.unusedVariables false
set_option linter.unusedSimpArgs false
open Go Go.RowKit

def nmLe (N : Nat) (t : Tree) : Bool := decide (t.name.size ≤ N)

/-- What the spoiler leaves: a formula with few nodes more, names one byte longer at most. -/
def SpPost (N : Nat) (S : Nat → Prop) (t : Tree) (w : World) (B b : Nat) (zs : List Int) (e : Ending) (w' : World) : Prop :=
  ∃ (T : Tree) (o : Int) (s : ByteArray) (a : Option Addr) (m c q : Nat), e = .returned (.agg #[.int .i64 o, .string s, .slice a m c]) ∧ T.nodes ≤ t.nodes + 20 ∧ T.all (nmLe (N + 1)) = true ∧
    FormIn w' (fun i => S i ∨ w.heap.size ≤ i) (.agg #[.int .i64 o, .string s, .slice a m c]) T ∧ SrcAt w' B b zs q ∧ w.grownBy w' (some b)

theorem nmLe_up {N M : Nat} (h : N ≤ M) {t : Tree} (ht : t.all (nmLe N) = true) : t.all (nmLe M) = true :=
  all_imp (fun t h1 => by unfold nmLe at *; simp only [decide_eq_true_eq] at *; omega) t ht
theorem nmLe_node {N : Nat} {op : Int} {s : ByteArray} {ts : List Tree} (h1 : s.size ≤ N) (h2 : ∀ t ∈ ts, t.all (nmLe N) = true) : (Tree.node op s ts).all (nmLe N) = true := by
  have key : ∀ l : List Tree, (∀ t ∈ l, t.all (nmLe N) = true) → allL (nmLe N) l = true := by
    intro l
    induction l with
    | nil => exact fun _ => rfl
    | cons t l ih => intro hl; simp only [allL, hl t (by simp), ih fun t ht => hl t (by simp [ht]), Bool.and_self]
  simp only [Tree.all, key ts h2, Bool.and_true]
  exact decide_eq_true (show s.size ≤ N from h1)

/-- The end: the formula lies in its box; it is carried to the result's box and handed back. -/
structure SpE (N : Nat) (S : Nat → Prop) (t : Tree) (w : World) (B b p4 p5 : Nat) (zs : List Int) (op : Int) (s : ByteArray) (a : Option Addr) (c : Nat) (ts : List Tree) (W : World) : Prop where
  hb : b < w.heap.size
  h4 : w.heap.size ≤ p4
  hS : ∀ i, S i → i < w.heap.size
  src : ∃ q, SrcAt W B b zs q
  box : W.heap[p5]? = some (.cells #[.int .i64 op, .string s, .slice a ts.length c] 24 (0, 0))
  res : W.heap[p4]? = some (.cells #[.int .i64 0, .string ⟨#[]⟩, .slice none 0 0] 24 (0, 0))
  forms : FormsIn W (fun i => S i ∨ p4 < i) a ts
  hop : I64 op
  hc1 : ts.length ≤ c
  hc2 : c ≤ maxLen
  gr : w.grownBy W (some b)
  nod : (Tree.node op s ts).nodes ≤ t.nodes + 20
  nm : (Tree.node op s ts).all (nmLe (N + 1)) = true
  hN : N ≤ 1000

theorem SpE.done {N : Nat} {S : Nat → Prop} {t : Tree} {w : World} {B b p4 p5 : Nat} {zs : List Int} {op : Int} {s : ByteArray} {a : Option Addr} {c : Nat} {ts : List Tree} {W : World} (h : SpE N S t w B b p4 p5 zs op s a c ts W) :
    SpPost N S t w B b zs (.returned (.agg #[.int .i64 op, .string s, .slice a ts.length c])) (((W.setCell ⟨p4, 0, none⟩ (.int .i64 op)).setCell ⟨p4, 1, none⟩ (.string s)).setCell ⟨p4, 2, none⟩ (.slice a ts.length c)) := by
  have h3 := set_three W p4 (.int .i64 op) (.string s) (.slice a ts.length c)
  obtain ⟨q, hq⟩ := h.src
  have h4 := h.h4
  have hb := h.hb
  have hB := hq.base
  have hs : s.size ≤ maxLen := by
    have h1 : s.size ≤ N + 1 := of_decide_eq_true (all_self h.nm).1
    have := h.hN
    unfold maxLen
    omega
  refine ⟨_, op, s, a, ts.length, c, q, rfl, h.nod, h.nm, FormIn.mk ((h.forms.kept fun i hi hl => h3.block i hl (fun e => ?_)).mono fun i _ hi => ?_) rfl h.hop hs h.hc1 h.hc2, hq.kept h3 (fun g e => by injection e with e; omega), only_new h.gr h3 h4⟩
  · injection e with e
    rcases hi with hi | hi
    · have := h.hS i hi
      omega
    · omega
  · rcases hi with hi | hi
    · exact .inl hi
    · exact .inr (by omega)

/-- The box's fields turn; the row stays. -/
theorem forms_apart {W W' : World} {S : Nat → Prop} {B p4 p5 : Nat} {v : Value} {ts : List Tree} (h : OwnG W B S v ts) (hS : ∀ i, S i → i ≠ p5) (hne : v.ownBlock ≠ some p5) (hB : p4 < B) (hg : W.grownBy W' (some p5)) : ∃ (a : Option Addr) (c : Nat), v = .slice a ts.length c ∧ ts.length ≤ c ∧ c ≤ maxLen ∧ FormsIn W' (fun i => S i ∨ p4 < i) a ts := by
  obtain ⟨a, c, rfl, h1, h2, h3, -⟩ := h.row
  refine ⟨a, c, rfl, h1, h2, (h3.kept fun i hi hl => hg.block i hl (fun e => ?_)).mono fun i _ hi => ?_⟩
  · injection e with e
    rcases hi with hi | hi
    · exact hS i hi e
    · exact hne (by rw [hi, e])
  · rcases hi with hi | hi
    · exact .inl hi
    · exact .inr (by have := (h.block i hi).1; omega)

theorem nmLe_gen {n N : Nat} (h : 12 ≤ N) {t : Tree} (ht : t.all (nodeG n) = true) : t.all (nmLe N) = true :=
  all_imp (fun t h1 => by
    have h2 := nodeG_name h1
    unfold nameB at h2
    refine decide_eq_true ?_
    split at h2
    · unfold vn at h2
      simp only [Bool.and_eq_true, decide_eq_true_eq] at h2
      omega
    · have : t.name.size = 0 := by simpa using h2
      omega) t ht

/-- The texts that the spoiler adds. -/
def spS : List ByteArray := [⟨#[97]⟩, ⟨#[65]⟩, ⟨#[]⟩, ⟨#[95]⟩]
theorem spS_size : ∀ s ∈ spS, s.size ≤ 1 := by decide
def isTexts (L : Nat) : Value → World → Prop := fun v w => ∃ nb : Nat, v = .slice (some ⟨nb, 0, none⟩) 4 4 ∧ L ≤ nb ∧ w.heap[nb]? = some (.cells (strRowK spS) 9 (0, 0))
def isShort : Value → World → Prop := fun v _ => ∃ s : ByteArray, v = .string s ∧ s.size ≤ 1

theorem nodesL_set (ts : List Tree) (m : Nat) (T : Tree) (h : m < ts.length) : nodesL (ts.set m T) + (ts[m]).nodes = nodesL ts + T.nodes := by
  induction ts generalizing m with
  | nil => simp at h
  | cons t ts ih =>
    cases m with
    | zero => simp only [List.set_cons_zero, List.getElem_cons_zero, nodesL]; omega
    | succ m =>
      have := ih m (by simpa using h)
      simp only [List.set_cons_succ, List.getElem_cons_succ, nodesL]
      omega

/-- What the way down leaves. -/
def isSpoilt (N : Nat) (S : Nat → Prop) (t : Tree) : Value → World → Prop := fun v w => ∃ (T : Tree) (o : Int) (s : ByteArray) (a : Option Addr) (m c : Nat), v = .agg #[.int .i64 o, .string s, .slice a m c] ∧ T.nodes ≤ t.nodes + 20 ∧ T.all (nmLe (N + 1)) = true ∧
  FormIn w S (.agg #[.int .i64 o, .string s, .slice a m c]) T

set_option maxRecDepth 100000 in
set_option maxHeartbeats 8000000 in
theorem spoilt_any (N : Nat) (hN12 : 12 ≤ N) (hN : N ≤ 1000) : ∀ t : Tree, t.nodes ≤ 100000 → t.all (nmLe N) = true → ∀ (B b : Nat) (zs : List Int) (k : Nat) (S : Nat → Prop) (v : Value) (w : World), SrcAt w B b zs k → ¬ S b → FormIn w S v t →
    Calls Tryz.prog 11 #[.pointer (some ⟨b, 0, none⟩), v] w (SpPost N (fun i => S i ∧ i < w.heap.size) t w B b zs) := by
  refine Tree.ind fun op name ts ih hnod hnm B b zs k S v w hsrc hSb hv => ?_
  obtain ⟨a, cap, -, -, rfl, hop, hname, hlen, hcap, -, -⟩ := hv.form
  have hforms := hv.forms
  simp only [Tree.op_node, Tree.name_node, Tree.args_node] at *
  have hlenn : ts.length ≤ 100000 := by
    have := nodes_len_le ts
    simp only [Tree.nodes] at hnod
    omega
  have hbl := hsrc.lt
  obtain ⟨W0, hW0⟩ : ∃ W0 : World, W0 = (w.alloc (.cells #[.int .i64 op, .string name, .slice a ts.length cap] 24)).alloc (.cells #[.int .i64 0, .string ⟨#[]⟩, .slice none 0 0] 24) := ⟨_, rfl⟩
  have hb0 : Below w.heap.size w W0 := by rw [hW0]; exact ((Below.refl _ _).alloc (Nat.le_refl _) _).alloc (by simp) _
  have hsz0 : W0.heap.size = w.heap.size + 2 := by rw [hW0]; simp
  have HK3 : Hid (W0.heap[w.heap.size]? = some (.cells #[.int .i64 op, .string name, .slice a ts.length cap] 24 (0, 0))) := by show _ = _; rw [hW0]; exact blk_kept (heap_alloc_new w _) (Grows.alloc _ _)
  have HK4 : Hid (W0.heap[w.heap.size + 1]? = some (.cells #[.int .i64 0, .string ⟨#[]⟩, .slice none 0 0] 24 (0, 0))) := by show _ = _; rw [hW0]; exact heap_alloc_at (by simp)
  have HS0 := hidIt (hsrc.grow (only_of_below hb0 none))
  have HF0 := hidIt ((hforms.mono (S' := fun i => S i ∧ i < w.heap.size) fun i hi h => ⟨h, hi⟩).go hb0)
  have HB0 := hidIt hb0
  have HW := hidIt hW0
  have HSZ0 := hidIt hsz0
  have HIH := hidIt ih
  have HNM := hidIt hnm
  have HND := hidIt hnod
  have HSB := hidIt hSb
  clear hv hforms hb0 hW0 ih hnm hnod hsrc hsz0
  unfold maxLen at hcap hname
  go_enter Tryz.func11, Tryz.ntmps11
  go_wp2_with fail
  rw [← HW.out]
  clear HW
  obtain ⟨x0, x1, x2⟩ := cell_of3 HK3.out
  have K0 := ext_cell3 x0
  have K1 := ext_cell3 x1
  have K2 := ext_cell3 x2
  have hlx := lt_of_block HK3.out
  clear x0 x1 x2
  haveI := Ext.nonempty W0
  refine Own.wp_region_tail 10 (Ext W0) Grows (Own.relTab [(11, Own.rA (isNil W0.heap.size)), (14, ⟨isCopy W0.heap.size (fun i => S i ∧ i < w.heap.size) ts, decide (0 < ts.length)⟩), (5, Own.rO (Own.isBox W0.heap.size))]) (by kernel_rfl) (by kernel_rfl) (by kernel_rfl) (by kernel_rfl) (by kernel_rfl) (by kernel_rfl) (Own.stableO_cons (isNil_up _) (Own.stableO_cons (isCopy_up _ _ _) (Own.stableO_cons (Own.isBox_up _) (Own.stableO_nil _)))) (Ext.start W0) ?_
  simp only [Own.idleTail]
  repeat (
    refine' Own.walkR_plain (by kernel_rfl) rfl rfl (fun wx hC hL => ?_) ?_
    rotate_left
    · (have hlw := Nat.lt_of_lt_of_le hlx (Below.size hC)
       simp only [K0 wx hC, K1 wx hC, K2 wx hC, hlw, go_sem]; first | done | (go_simp; exact ⟨rfl, rfl⟩))
    simp only [Act.put, List.setIfInBounds_toArray, List.set_cons_zero, List.set_cons_succ])
  refine Own.walkR_rel (by kernel_rfl) rfl rfl (of_decide_eq_true (by kernel_rfl)) (fun wx hC hL => ?_) (fun v hv => ?_)
  · go_simp
    exact ⟨hC.grown (Grows.alloc _ _), Grows.alloc _ _, ⟨_, rfl, Below.size hC, heap_alloc_new _ _⟩, fun h => by cases h⟩
  obtain ⟨_, _, nb11, rfl, hnb11, -⟩ := hv
  simp only [Act.put, List.setIfInBounds_toArray, List.set_cons_zero, List.set_cons_succ]
  repeat (
    refine' Own.walkR_plain (by kernel_rfl) rfl rfl (fun wx hC hL => ?_) ?_
    rotate_left
    · (have hlw := Nat.lt_of_lt_of_le hlx (Below.size hC)
       simp only [K0 wx hC, K1 wx hC, K2 wx hC, hlw, go_sem]; first | done | (go_simp; exact ⟨rfl, rfl⟩))
    simp only [Act.put, List.setIfInBounds_toArray, List.set_cons_zero, List.set_cons_succ])
  refine Own.walkR_rel (by kernel_rfl) rfl rfl (of_decide_eq_true (by kernel_rfl)) (fun wx hC hL => ?_) (fun v hv => ?_)
  · exact rel_copy (.tmp 11) (.tmp 13) rfl hC (Nat.le_refl _) rfl (hL.get 11 (by simp [Own.more]) (by kernel_rfl) rfl rfl) rfl (HF0.out.go hC) (by omega)
  obtain ⟨_, _, hv⟩ := hv
  obtain ⟨a5, c5, rfl, h5l, h5c, -⟩ := hv.1.form
  clear hv
  simp only [Act.put, List.setIfInBounds_toArray, List.set_cons_zero, List.set_cons_succ]
  repeat (
    refine' Own.walkR_plain (by kernel_rfl) rfl rfl (fun wx hC hL => ?_) ?_
    rotate_left
    · (have hlw := Nat.lt_of_lt_of_le hlx (Below.size hC)
       simp only [K0 wx hC, K1 wx hC, K2 wx hC, hlw, go_sem]; first | done | (go_simp; exact ⟨rfl, rfl⟩))
    simp only [Act.put, List.setIfInBounds_toArray, List.set_cons_zero, List.set_cons_succ])
  refine Own.walkR_rel (by kernel_rfl) rfl rfl (of_decide_eq_true (by kernel_rfl)) (fun wx hC hL => ?_) (fun v hv => ?_)
  · go_simp
    exact Own.boxO hC (Nat.le_refl _)
  obtain ⟨_, _, p5, rfl, hp5, -⟩ := hv
  simp only [Act.put, List.setIfInBounds_toArray, List.set_cons_zero, List.set_cons_succ]
  refine Own.walkR_idle rfl (fun wx _ => Below.refl _ _) ?_
  refine fun w1 hE1 hK => ?_
  have hsz0 := HSZ0.out
  have h14 : isCopy W0.heap.size (fun i => S i ∧ i < w.heap.size) ts (.slice a5 ts.length c5) w1 := hK.get 14 (by simp [Own.more]) rfl rfl
  obtain ⟨_, e5, -, hz5⟩ : Own.isBox W0.heap.size (.pointer (some ⟨p5, 0, none⟩)) w1 := hK.get 5 (by simp [Own.more]) rfl rfl
  injection e5 with e5
  injection e5 with e5
  injection e5 with e5
  subst e5
  have hne : (Value.slice a5 ts.length c5).ownBlock ≠ some p5 := by
    by_cases h0 : 0 < ts.length
    · have h1 : Own.apartV (.slice a5 ts.length c5) (.pointer (some ⟨p5, 0, none⟩)) := hK.ne 14 5 (by simp [Own.more]) (by simp [Own.more]) (by decide) rfl rfl (decide_eq_true h0) rfl rfl rfl
      intro e
      cases a5 with
      | none => cases e
      | some ad =>
        have e2 : ad.block = p5 := by simpa [Value.ownBlock] using e
        exact h1 p5 (by simp [Own.vblk, e2]) rfl
    · obtain ⟨nb, e, -, hblk⟩ := h14.2 (by omega)
      rw [e]
      intro e2
      have e3 : nb = p5 := by simpa [Value.ownBlock] using e2
      rw [e3, hz5] at hblk
      injection hblk with hblk
      injection hblk with h1 h2
      simp at h1
  have hown := h14.1
  clear hK h14
  simp only [List.drop_succ_cons, List.drop_zero]
  have hs1 := set_three w1 p5 (.int .i64 op) (.string name) (.slice a5 ts.length c5)
  have hz5' := Own.set_blk3 (x' := .int .i64 op) (y' := .string name) (z' := .slice a5 ts.length c5) hz5
  have hl5 := lt_of_block hz5
  have HG1 := hidIt (only_new (only_of_below (HB0.out.trans (Below.mono hE1 HB0.out.size)) (some b)) hs1 (by omega))
  have HO1 := hidIt (hown.kept hs1 (fun g e => by injection e with e; subst e; exact ⟨hne, fun h => by omega⟩))
  have HR1 : Hid ((((w1.setCell ⟨p5, 0, none⟩ (.int .i64 op)).setCell ⟨p5, 1, none⟩ (.string name)).setCell ⟨p5, 2, none⟩ (.slice a5 ts.length c5)).heap[w.heap.size + 1]? = some (.cells #[.int .i64 0, .string ⟨#[]⟩, .slice none 0 0] 24 (0, 0))) := by
    show _ = _
    have h1 := blk_kept HK4.out hE1
    rw [hs1.block (w.heap.size + 1) (lt_of_block h1) (fun e => by injection e with e; omega)]
    exact h1
  have HS1 := hidIt ((HS0.out.grow (only_of_below hE1 none)).kept hs1 (fun g e => by have := HS0.out.base; injection e with e; exact ⟨by omega, by omega⟩))
  have HZ5 := hidIt hz5'
  have HNE := hidIt hne
  obtain ⟨r0, r1, r2⟩ := cell_of3 hz5
  obtain ⟨f0, f1, f2⟩ := cells_free hz5
  unfold maxLen at h5c
  have HB5 : Hid (W0.heap.size ≤ p5) := hp5
  have hlt1 : b < (((w1.setCell ⟨p5, 0, none⟩ (.int .i64 op)).setCell ⟨p5, 1, none⟩ (.string name)).setCell ⟨p5, 2, none⟩ (.slice a5 ts.length c5)).heap.size := HS1.out.lt
  have HSUB : Hid (∀ i, (S i ∧ i < w.heap.size) → i ≠ p5) := fun i h => by omega
  have hp4 : ¬ w.heap.size + 1 = p5 := by omega
  have hp4' : ¬ p5 = w.heap.size + 1 := by omega
  have hp5b : b ≠ p5 := by omega
  have h5p : p5 < (((w1.setCell ⟨p5, 0, none⟩ (.int .i64 op)).setCell ⟨p5, 1, none⟩ (.string name)).setCell ⟨p5, 2, none⟩ (.slice a5 ts.length c5)).heap.size := lt_of_block HZ5.out
  clear hs1 hz5' hown hz5 hE1 hne K0 K1 K2 HS0 HK3 HK4 HF0 HB0 hlx
  by_cases h0 : 0 < ts.length
  case pos =>
    have h0' : (0 : Int) < (ts.length : Int) := by omega
    go_wp2_with fail
    generalize (((w1.setCell ⟨p5, 0, none⟩ (.int .i64 op)).setCell ⟨p5, 1, none⟩ (.string name)).setCell ⟨p5, 2, none⟩ (.slice a5 ts.length c5)) = W1 at *
    clear r0 r1 r2 f0 f1 f2
    refine (sn_nat 3 (by omega) (by omega) B b zs k _ HS1.out).mono ?_
    rintro e W2 ⟨z3, k2, rfl, hz3, hs2, hg2⟩
    have HS2 := hidIt hs2
    have HG2 := hidIt (only_trans HG1.out hg2)
    have HO2 := hidIt (HO1.out.kept hg2 (fun g e => by injection e with e; subst e; exact ⟨fun e2 => by have := (HO1.out.block _ e2).1; omega, fun h => HSB.out h.1⟩))
    have HR2 := hidIt (by have h1 := HR1.out; rw [← hg2.block _ (lt_of_block h1) (fun e => by injection e with e; omega)] at h1; exact h1 : W2.heap[w.heap.size + 1]? = some (.cells #[.int .i64 0, .string ⟨#[]⟩, .slice none 0 0] 24 (0, 0)))
    have HZ2 := hidIt (by have h1 := HZ5.out; rw [← hg2.block _ (lt_of_block h1) (fun e => by injection e with e; exact hp5b e.symm)] at h1; exact h1 : W2.heap[p5]? = some (.cells #[.int .i64 op, .string name, .slice a5 ts.length c5] 24 (0, 0)))
    have h5p2 : p5 < W2.heap.size := Nat.lt_of_lt_of_le h5p hg2.size
    clear hs2 hg2 HS1 HG1 HO1 HR1 HZ5 h5p hlt1
    obtain ⟨y0, y1, y2⟩ := cell_of3 HZ2.out
    by_cases hz : 0 < z3
    case pos =>
      have hz' : (0 : Int) < (z3 : Int) := by omega
      go_wp2_with fail
      refine (sn_nat (ts.length : Int) (by omega) (by omega) B b zs k2 _ HS2.out).mono ?_
      rintro e W3 ⟨m, k3, rfl, hm, hs3, hg3⟩
      have hm' : m < ts.length := by omega
      have HS3 := hidIt hs3
      have HG3 := hidIt (only_trans HG2.out hg3)
      have HO3 := hidIt (HO2.out.kept hg3 (fun g e => by injection e with e; subst e; exact ⟨fun e2 => by have := (HO2.out.block _ e2).1; omega, fun h => HSB.out h.1⟩))
      have HR3 := hidIt (by have h1 := HR2.out; rw [← hg3.block _ (lt_of_block h1) (fun e => by injection e with e; omega)] at h1; exact h1 : W3.heap[w.heap.size + 1]? = some (.cells #[.int .i64 0, .string ⟨#[]⟩, .slice none 0 0] 24 (0, 0)))
      have HZ3 := hidIt (by have h1 := HZ2.out; rw [← hg3.block _ (lt_of_block h1) (fun e => by injection e with e; exact hp5b e.symm)] at h1; exact h1 : W3.heap[p5]? = some (.cells #[.int .i64 op, .string name, .slice a5 ts.length c5] 24 (0, 0)))
      clear hs3 hg3 HS2 HG2 HO2 HR2 HZ2 y0 y1 y2 h5p2
      obtain ⟨g, cur, ai, cx, ci, ea, hgB, hgl, hcur, q0, q1, q2, hcl, hfi⟩ := HO3.out.at m hm'
      injection ea with ea1 ea2 ea3
      subst ea1 ea3
      have hgp : g ≠ p5 := fun e => HNE.out (by rw [← e]; rfl)
      have HCUR := hidIt hcur
      have HFI := hidIt hfi
      have HSUM := hidIt (nodesL_take_le ts (m + 1))
      have HTK := hidIt (nodesL_take ts m hm')
      have HMEM : Hid (ts[m] ∈ ts) := List.getElem_mem hm'
      obtain ⟨ti, hti⟩ : ∃ t, t = ts[m] := ⟨_, rfl⟩
      rw [← hti] at q0 q1 q2 HFI HTK HMEM
      have HTI := hidIt hti
      clear hti hfi hcur
      have hm0 : (0 : Int) ≤ (m : Int) := by omega
      have hml : (m : Int) < (ts.length : Int) := by omega
      go_wp2_with fail
      have hg3b : g ≠ b := by omega
      have hyl := lt_of_block HZ3.out
      have hbW : b < W3.heap.size := HS3.out.lt
      have Y2 : ∀ wx, (W3.grownBy wx (some b) ∧ ∃ q, SrcAt wx B b zs q) → wx.cell? ⟨p5, 2, none⟩ = some (.slice (some ⟨g, 0, none⟩) ts.length c5) := fun wx hC => hC.1.cell (cell_of3 HZ3.out).2.2 (fun e => hp5b (by injection e with e; exact e.symm))
      have Q0 : ∀ wx, (W3.grownBy wx (some b) ∧ ∃ q, SrcAt wx B b zs q) → wx.cell? ⟨g, m * 3, none⟩ = some (.int .i64 ti.op) := fun wx hC => hC.1.cell q0 (fun e => hg3b (by injection e))
      have Q1 : ∀ wx, (W3.grownBy wx (some b) ∧ ∃ q, SrcAt wx B b zs q) → wx.cell? ⟨g, m * 3 + 1, none⟩ = some (.string ti.name) := fun wx hC => hC.1.cell q1 (fun e => hg3b (by injection e))
      have Q2 : ∀ wx, (W3.grownBy wx (some b) ∧ ∃ q, SrcAt wx B b zs q) → wx.cell? ⟨g, m * 3 + 2, none⟩ = some (.slice ai ti.args.length ci) := fun wx hC => hC.1.cell q2 (fun e => hg3b (by injection e))
      have HCALL : Hid (∀ wx, (W3.grownBy wx (some b) ∧ ∃ q, SrcAt wx B b zs q) → Calls Tryz.prog 11 #[.pointer (some ⟨b, 0, none⟩), .agg #[.int .i64 ti.op, .string ti.name, .slice ai ti.args.length ci]] wx fun e w'' => ∃ u, e = .returned u ∧ (W3.grownBy w'' (some b) ∧ ∃ q, SrcAt w'' B b zs q) ∧ wx.grownBy w'' (some b) ∧ Own.relR (Own.rA (isSpoilt N (fun i => (S i ∧ i < w.heap.size) ∨ W3.heap.size ≤ i) ti)) wx u w'') := fun wx hC => by
        obtain ⟨hC1, q, hq⟩ := hC
        have hti := HMEM.out
        have hn1 : ti.nodes ≤ 100000 := by have h1 := HTK.out; have h2 := HSUM.out; have h3 := HND.out; simp only [Tree.nodes] at h3; omega
        have hn2 : ti.all (nmLe N) = true := allL_mem (all_self HNM.out).2 ti hti
        refine (HIH.out ti hti hn1 hn2 B b zs q (fun i => S i ∧ i < w.heap.size) _ wx hq (fun h => HSB.out h.1) (HFI.out.kept fun i hi hl => hC1.block i hl (fun e => HSB.out (by injection e with e; subst e; exact hi.1)))).mono ?_
        rintro e w'' ⟨T, o, sx, ax, mx, cx, q', rfl, h1, h2, h3, h4, h5⟩
        exact ⟨_, rfl, ⟨only_trans hC1 h5, _, h4⟩, h5, ⟨T, o, sx, ax, mx, cx, rfl, h1, h2, h3.mono fun i _ hi => by
          rcases hi with hi | hi
          · exact .inl hi.1
          · exact .inr (Nat.le_trans hC1.size hi)⟩, fun h => by cases h⟩
      clear HIH
      refine Own.wp_region_tail 11 (fun wx => W3.grownBy wx (some b) ∧ ∃ q, SrcAt wx B b zs q) (fun x y => x.grownBy y (some b)) (Own.relTab [(39, Own.rA (isSpoilt N (fun i => (S i ∧ i < w.heap.size) ∨ W3.heap.size ≤ i) ti))]) (by kernel_rfl) (by kernel_rfl) (by kernel_rfl) (by kernel_rfl) (by kernel_rfl) (by kernel_rfl) ⟨fun _ _ h => h.size, fun s r hs v x y hx hy hg hr => ?_⟩ ⟨only_of_below (Below.refl _ _).drew _, _, HS3.out.grow (only_of_below (Below.refl _ _).drew none)⟩ ?_
      · unfold Own.relTab at hs
        split at hs
        · injection hs with hs
          subst hs
          obtain ⟨T, o, sx, ax, mx, cx, h1, h2, h3, h4⟩ := hr
          exact ⟨T, o, sx, ax, mx, cx, h1, h2, h3, h4.kept fun i hi hl => hg.block i hl (fun e => by
            injection e with e
            subst e
            rcases hi with hi | hi
            · exact HSB.out hi.1
            · omega)⟩
        · cases hs
      simp only [Own.idleTail]
      repeat (
        refine' Own.walkR_plain (by kernel_rfl) rfl rfl (fun wx hC hL => ?_) ?_
        rotate_left
        · (have hlw := Nat.lt_of_lt_of_le hyl hC.1.size
           have hlg := Nat.lt_of_lt_of_le hgl hC.1.size
           simp only [Y2 wx hC, hlw, go_sem]; first | done | (go_simp; exact ⟨rfl, rfl⟩))
        simp only [Act.put, List.setIfInBounds_toArray, List.set_cons_zero, List.set_cons_succ])
      repeat (
        refine' Own.walkR_plain (by kernel_rfl) rfl rfl (fun wx hC hL => ?_) ?_
        rotate_left
        · (have hlw := Nat.lt_of_lt_of_le hyl hC.1.size
           have hlg := Nat.lt_of_lt_of_le hgl hC.1.size
           simp only [Y2 wx hC, Q0 wx hC, Q1 wx hC, Q2 wx hC, hlw, hlg, go_sem]; first | done | (go_simp; exact ⟨rfl, rfl⟩))
        simp only [Act.put, List.setIfInBounds_toArray, List.set_cons_zero, List.set_cons_succ])
      refine Own.walkR_rel (by kernel_rfl) rfl rfl (of_decide_eq_true (by kernel_rfl)) (fun wx hC hL => ?_) (fun v hv => ?_)
      · go_simp
        exact HCALL.out wx hC
      obtain ⟨_, _, T0, o0, s0, a0, n0, c0, rfl, -⟩ := hv
      simp only [Act.put, List.setIfInBounds_toArray, List.set_cons_zero, List.set_cons_succ]
      repeat (
        refine' Own.walkR_plain (by kernel_rfl) rfl rfl (fun wx hC hL => ?_) ?_
        rotate_left
        · (have hlw := Nat.lt_of_lt_of_le hyl hC.1.size
           have hlg := Nat.lt_of_lt_of_le hgl hC.1.size
           simp only [Y2 wx hC, hlw, hlg, go_sem]; first | done | (go_simp; exact ⟨rfl, rfl⟩))
        simp only [Act.put, List.setIfInBounds_toArray, List.set_cons_zero, List.set_cons_succ])
      refine' Own.walkR_idle (by rfl) ?_ ?_
      · exact fun wx _ => only_refl wx (some b)
      refine fun W4 hC4 hK => ?_
      obtain ⟨T, o, sx, ax, mx, cx', e9, hTn, hTm, hTf⟩ : isSpoilt N (fun i => (S i ∧ i < w.heap.size) ∨ W3.heap.size ≤ i) ti (.agg #[.int .i64 o0, .string s0, .slice a0 n0 c0]) W4 := hK.get 39 (by simp [Own.more]) rfl rfl
      simp at e9
      obtain ⟨rfl, rfl, rfl, rfl, rfl⟩ := e9
      obtain ⟨hg4, k4, hs4⟩ := hC4
      clear hK HCALL Y2 Q0 Q1 Q2
      simp only [List.drop_succ_cons, List.drop_zero]
      have hcur4 := (hg4.block g hgl (fun e => hg3b (by injection e))).trans HCUR.out
      have HG4 := hidIt (only_trans HG3.out hg4)
      have hz4 := (hg4.block p5 hyl (fun e => hp5b (by injection e with e; exact e.symm))).trans HZ3.out
      have hr4 := (hg4.block (w.heap.size + 1) (lt_of_block HR3.out) (fun e => by injection e with e; omega)).trans HR3.out
      have hO4 := HO3.out.kept hg4 (fun g' e => by injection e with e; subst e; exact ⟨fun e2 => by have := (HO3.out.block _ e2).1; omega, fun h => HSB.out h.1⟩)
      have hput := hO4.put (S' := fun i => (S i ∧ i < w.heap.size) ∨ W3.heap.size ≤ i) (fun i h => .inl h) (fun h => by rcases h with h | h <;> omega) m hm' hTf
      have hrow := set_row3 W4 g (m * 3) (.int .i64 o0) (.string s0) (.slice a0 n0 c0)
      have hgr4 : w.heap.size + 1 ≠ g := by omega
      have hforms : FormsIn (((W4.setCell ⟨g, m * 3, none⟩ (.int .i64 o0)).setCell ⟨g, m * 3 + 1, none⟩ (.string s0)).setCell ⟨g, m * 3 + 2, none⟩ (.slice a0 n0 c0)) (fun i => (S i ∧ i < w.heap.size) ∨ w.heap.size + 1 < i) (some ⟨g, 0, none⟩) (ts.set m T) := hput.mono fun i _ hi => by
        rcases hi with (h | h) | h
        · exact .inl h
        · exact .inr (by omega)
        · exact .inr (by omega)
      have hnset := nodesL_set ts m T hm'
      rw [← HTI.out] at hnset
      have hlen : (ts.set m T).length = ts.length := List.length_set
      have HE : Hid (SpE N (fun i => S i ∧ i < w.heap.size) (.node op name ts) w B b (w.heap.size + 1) p5 zs op name (some ⟨g, 0, none⟩) c5 (ts.set m T) (((W4.setCell ⟨g, m * 3, none⟩ (.int .i64 o0)).setCell ⟨g, m * 3 + 1, none⟩ (.string s0)).setCell ⟨g, m * 3 + 2, none⟩ (.slice a0 n0 c0))) :=
        ⟨hbl, by omega, fun i h => h.2, ⟨_, hs4.kept hrow (fun g' e => by have := hs4.base; injection e with e; exact ⟨by omega, by omega⟩)⟩, by rw [hlen, hrow.block p5 (lt_of_block hz4) (fun e => hgp (by injection e with e; exact e.symm))]; exact hz4, by rw [hrow.block _ (lt_of_block hr4) (fun e => hgr4 (by injection e))]; exact hr4, hforms, hop, by omega, by unfold maxLen; omega, only_new HG4.out hrow (by omega), by simp only [Tree.nodes]; omega, nmLe_node (by have := of_decide_eq_true (all_self HNM.out).1; exact Nat.le_trans this (by omega)) (fun t ht => by
          rcases List.mem_or_eq_of_mem_set ht with h | h
          · exact nmLe_up (by omega) (allL_mem (all_self HNM.out).2 t h)
          · rw [h]; exact hTm), hN⟩
      obtain ⟨g9, cur9, ai9, c9, ci9, e9, -, -, -, u0, u1, u2, -, -⟩ := hO4.at m hm'
      injection e9 with e91 e92 e93
      injection e91 with e91
      injection e91 with e91
      subst e91 e93
      have v0 := free_any hcur4 (m * 3)
      have v1 := free_any hcur4 (m * 3 + 1)
      have v2 := free_any hcur4 (m * 3 + 2)
      have hgl4 := lt_of_block hcur4
      obtain ⟨y0, y1, y2⟩ := cell_of3 hz4
      obtain ⟨r0, r1, r2⟩ := cell_of3 hr4
      obtain ⟨f0, f1, f2⟩ := cells_free hr4
      have hrl := lt_of_block hr4
      have hyl4 := lt_of_block hz4
      have hgp' : ¬ p5 = g := fun e => hgp e.symm
      have hgp : ¬ g = p5 := hgp
      have hgr4' : ¬ g = w.heap.size + 1 := fun e => hgr4 e.symm
      have hgr4 : ¬ w.heap.size + 1 = g := hgr4
      clear hforms hput hrow hO4 hz4 hr4 hcur4 hs4 hg4 hTf hnset q0 q1 q2
      go_wp2_with fail
      refine bodyPost_ret (v := .agg #[.int .i64 op, .string name, .slice (some ⟨g, 0, none⟩) ts.length c5]) (by simp [results, Tryz.results11, go_sem, r0, r1, r2, hrl, hp4, hp4', hgr4, hgr4']) rfl ?_
      have h9 := HE.out.done
      rw [hlen] at h9
      exact h9
    case neg =>
      obtain rfl : z3 = 0 := by omega
      go_wp2_with fail
      clear y0 y1 y2
      refine (sn_nat 5 (by omega) (by omega) B b zs k2 _ HS2.out).mono ?_
      rintro e W3 ⟨z, k3, rfl, hz5, hs3, hg3⟩
      have HS3 := hidIt hs3
      have HG3 := hidIt (only_trans HG2.out hg3)
      have HO3 := hidIt (HO2.out.kept hg3 (fun g e => by injection e with e; subst e; exact ⟨fun e2 => by have := (HO2.out.block _ e2).1; omega, fun h => HSB.out h.1⟩))
      have HR3 := hidIt (by have h1 := HR2.out; rw [← hg3.block _ (lt_of_block h1) (fun e => by injection e with e; omega)] at h1; exact h1 : W3.heap[w.heap.size + 1]? = some (.cells #[.int .i64 0, .string ⟨#[]⟩, .slice none 0 0] 24 (0, 0)))
      have HZ3 := hidIt (by have h1 := HZ2.out; rw [← hg3.block _ (lt_of_block h1) (fun e => by injection e with e; exact hp5b e.symm)] at h1; exact h1 : W3.heap[p5]? = some (.cells #[.int .i64 op, .string name, .slice a5 ts.length c5] 24 (0, 0)))
      have h5p3 : p5 < W3.heap.size := lt_of_block HZ3.out
      clear hs3 hg3
      rcases (by omega : z = 0 ∨ z = 1 ∨ z = 2 ∨ z = 3 ∨ z = 4) with rfl | rfl | rfl | rfl | rfl
      · go_wp2_with fail
        refine (sn_nat 11 (by omega) (by omega) B b zs k3 _ HS3.out).mono ?_
        rintro e W4 ⟨z11, k4, rfl, hz11, hs4, hg4⟩
        have hsub : wrap64 ((z11 : Int) - 1) = (z11 : Int) - 1 := by unfold wrap64; omega
        have HS4 := hidIt hs4
        have HG4 := hidIt (only_trans HG3.out hg4)
        have HO4 := hidIt (HO3.out.kept hg4 (fun g e => by injection e with e; subst e; exact ⟨fun e2 => by have := (HO3.out.block _ e2).1; omega, fun h => HSB.out h.1⟩))
        have HR4 := hidIt (by have h1 := HR3.out; rw [← hg4.block _ (lt_of_block h1) (fun e => by injection e with e; omega)] at h1; exact h1 : W4.heap[w.heap.size + 1]? = some (.cells #[.int .i64 0, .string ⟨#[]⟩, .slice none 0 0] 24 (0, 0)))
        have HZ4 := hidIt (by have h1 := HZ3.out; rw [← hg4.block _ (lt_of_block h1) (fun e => by injection e with e; exact hp5b e.symm)] at h1; exact h1 : W4.heap[p5]? = some (.cells #[.int .i64 op, .string name, .slice a5 ts.length c5] 24 (0, 0)))
        clear hs4 hg4
        have hset : W4.grownBy (W4.setCell ⟨p5, 0, none⟩ (.int .i64 ((z11 : Int) - 1))) (some p5) := only_setCell (p := ⟨p5, 0, none⟩) (only_refl W4 (some p5)) (.inl rfl) _
        obtain ⟨a6, c6, e6, hc61, hc62, hf6⟩ := forms_apart (p4 := w.heap.size + 1) HO4.out HSUB.out HNE.out (by have := HSZ0.out; omega) hset
        injection e6 with e61 e62 e63
        subst e61 e63
        have HE : Hid (SpE N (fun i => S i ∧ i < w.heap.size) (.node op name ts) w B b (w.heap.size + 1) p5 zs ((z11 : Int) - 1) name a5 c5 ts (W4.setCell ⟨p5, 0, none⟩ (.int .i64 ((z11 : Int) - 1)))) :=
          ⟨hbl, by omega, fun i h => h.2, ⟨_, HS4.out.kept hset (fun g e => by have := HS4.out.base; injection e with e; exact ⟨by omega, by omega⟩)⟩, setCell_heap_self HZ4.out _, by rw [hset.block _ (lt_of_block HR4.out) (fun e => hp4 (by injection e))]; exact HR4.out, hf6, by unfold I64; omega, hc61, hc62, only_new HG4.out hset (by omega), by simp only [Tree.nodes]; omega, nmLe_node (by have := of_decide_eq_true (all_self HNM.out).1; exact Nat.le_trans this (by omega)) (fun t ht => nmLe_up (by omega) (allL_mem (all_self HNM.out).2 t ht)), hN⟩
        obtain ⟨y0, y1, y2⟩ := cell_of3 HZ4.out
        obtain ⟨g0, g1, g2⟩ := cells_free HZ4.out
        obtain ⟨r0, r1, r2⟩ := cell_of3 HR4.out
        obtain ⟨f0, f1, f2⟩ := cells_free HR4.out
        have hrl := lt_of_block HR4.out
        have hyl := lt_of_block HZ4.out
        clear hset hf6
        go_wp2_with fail
        refine bodyPost_ret (v := .agg #[.int .i64 ((z11 : Int) - 1), .string name, .slice a5 ts.length c5]) (by simp [results, Tryz.results11, go_sem, r0, r1, r2, hrl, hp4, hp4']) rfl ?_
        exact HE.out.done
      · go_wp2_with fail
        have Y1 : ∀ wx, (W3.grownBy wx (some b) ∧ ∃ q, SrcAt wx B b zs q) → wx.cell? ⟨p5, 1, none⟩ = some (.string name) := fun wx hC => hC.1.cell (cell_of3 HZ3.out).2.1 (fun e => hp5b (by injection e with e; exact e.symm))
        have hbW : b < W3.heap.size := HS3.out.lt
        have hyl := lt_of_block HZ3.out
        have hnmz : name.size ≤ N := of_decide_eq_true (all_self HNM.out).1
        haveI : Nonempty (In fun wx => W3.grownBy wx (some b) ∧ ∃ q, SrcAt wx B b zs q) := ⟨⟨W3, only_refl _ _, _, HS3.out⟩⟩
        refine Own.wp_region_tail 7 (fun wx => W3.grownBy wx (some b) ∧ ∃ q, SrcAt wx B b zs q) (fun x y => x.grownBy y (some b)) (Own.relTab [(56, Own.rA (isTexts W3.heap.size)), (57, Own.rA isShort)]) (by kernel_rfl) (by kernel_rfl) (by kernel_rfl) (by kernel_rfl) (by kernel_rfl) (by kernel_rfl) ⟨fun _ _ h => h.size, fun s r hs v x y hx hy hg hr => ?_⟩ ⟨only_of_below (Below.refl _ _).drew _, _, HS3.out.grow (only_of_below (Below.refl _ _).drew none)⟩ ?_
        · unfold Own.relTab at hs
          split at hs
          · injection hs with hs
            subst hs
            obtain ⟨nb, h1, h2, h3⟩ := hr
            exact ⟨nb, h1, h2, by rw [hg.block nb (lt_of_block h3) (fun e => by injection e with e; omega)]; exact h3⟩
          · unfold Own.relTab at hs
            split at hs
            · injection hs with hs
              subst hs
              exact hr
            · cases hs
        simp only [Own.idleTail]
        repeat (
          refine' Own.walkR_plain (by kernel_rfl) rfl rfl (fun wx hC hL => ?_) ?_
          rotate_left
          · (have hlw := Nat.lt_of_lt_of_le hyl hC.1.size
             simp only [Y1 wx hC, hlw, go_sem]; first | done | (go_simp; exact ⟨rfl, rfl⟩))
          simp only [Act.put, List.setIfInBounds_toArray, List.set_cons_zero, List.set_cons_succ])
        refine Own.walkR_rel (by kernel_rfl) rfl rfl (of_decide_eq_true (by kernel_rfl)) (fun wx hC hL => ?_) (fun v hv => ?_)
        · go_simp
          exact ⟨⟨only_alloc hC.1 _, hC.2.imp fun q h => h.alloc _⟩, only_alloc (only_refl _ _) _, ⟨_, rfl, hC.1.size, heap_alloc_new _ _⟩, fun h => by cases h⟩
        obtain ⟨_, _, nb6, rfl, -⟩ := hv
        simp only [Act.put, List.setIfInBounds_toArray, List.set_cons_zero, List.set_cons_succ]
        refine Own.walkR_rel (by kernel_rfl) rfl rfl (of_decide_eq_true (by kernel_rfl)) (fun wx hC hL => ?_) (fun v hv => ?_)
        · go_simp
          obtain ⟨nb, e, hn1, hn2⟩ : isTexts W3.heap.size (.slice (some ⟨nb6, 0, none⟩) 4 4) wx := hL.get 56 (by simp [Own.more]) (by kernel_rfl) rfl rfl
          injection e with e
          injection e with e
          injection e with e
          subst e
          obtain ⟨q, hq⟩ := hC.2
          refine (stext_any nb6 spS (by decide) (by decide) B b zs q wx hq hn2 (by omega)).mono ?_
          rintro e w' ⟨sx, q', rfl, hmem, hsx, hgx⟩
          exact ⟨_, rfl, ⟨only_trans hC.1 hgx, _, hsx⟩, hgx, ⟨sx, rfl, spS_size sx hmem⟩, fun h => by cases h⟩
        obtain ⟨_, _, sx, rfl, hsx⟩ := hv
        have hcl : ¬ 9223372036854775807 < name.size + sx.size := by omega
        simp only [Act.put, List.setIfInBounds_toArray, List.set_cons_zero, List.set_cons_succ]
        repeat (
          refine' Own.walkR_plain (by kernel_rfl) rfl rfl (fun wx hC hL => ?_) ?_
          rotate_left
          · (have hlw := Nat.lt_of_lt_of_le hyl hC.1.size
             simp only [Y1 wx hC, hlw, go_sem]; first | done | (go_simp; exact ⟨rfl, rfl⟩))
          simp only [Act.put, List.setIfInBounds_toArray, List.set_cons_zero, List.set_cons_succ])
        refine' Own.walkR_idle (by rfl) ?_ ?_
        · exact fun wx _ => only_refl wx (some b)
        refine fun W4 hC4 hK => ?_
        obtain ⟨hg4, k4, hs4⟩ := hC4
        clear hK
        simp only [List.drop_succ_cons, List.drop_zero]
        have HS4 := hidIt hs4
        have HG4 := hidIt (only_trans HG3.out hg4)
        have HO4 := hidIt (HO3.out.kept hg4 (fun g e => by injection e with e; subst e; exact ⟨fun e2 => by have := (HO3.out.block _ e2).1; omega, fun h => HSB.out h.1⟩))
        have HR4 := hidIt (by have h1 := HR3.out; rw [← hg4.block _ (lt_of_block h1) (fun e => by injection e with e; omega)] at h1; exact h1 : W4.heap[w.heap.size + 1]? = some (.cells #[.int .i64 0, .string ⟨#[]⟩, .slice none 0 0] 24 (0, 0)))
        have HZ4 := hidIt (by have h1 := HZ3.out; rw [← hg4.block _ (lt_of_block h1) (fun e => by injection e with e; exact hp5b e.symm)] at h1; exact h1 : W4.heap[p5]? = some (.cells #[.int .i64 op, .string name, .slice a5 ts.length c5] 24 (0, 0)))
        clear hs4 hg4
        have hcat : (name ++ sx).size ≤ N + 1 := by rw [ByteArray.size_append]; omega
        have hset : W4.grownBy (W4.setCell ⟨p5, 1, none⟩ (.string (name ++ sx))) (some p5) := only_setCell (p := ⟨p5, 1, none⟩) (only_refl W4 (some p5)) (.inl rfl) _
        obtain ⟨a6, c6, e6, hc61, hc62, hf6⟩ := forms_apart (p4 := w.heap.size + 1) HO4.out HSUB.out HNE.out (by have := HSZ0.out; omega) hset
        injection e6 with e61 e62 e63
        subst e61 e63
        have HE : Hid (SpE N (fun i => S i ∧ i < w.heap.size) (.node op name ts) w B b (w.heap.size + 1) p5 zs op (name ++ sx) a5 c5 ts (W4.setCell ⟨p5, 1, none⟩ (.string (name ++ sx)))) :=
          ⟨hbl, by omega, fun i h => h.2, ⟨_, HS4.out.kept hset (fun g e => by have := HS4.out.base; injection e with e; exact ⟨by omega, by omega⟩)⟩, setCell_heap_self HZ4.out _, by rw [hset.block _ (lt_of_block HR4.out) (fun e => hp4 (by injection e))]; exact HR4.out, hf6, hop, hc61, hc62, only_new HG4.out hset (by omega), by simp only [Tree.nodes]; omega, nmLe_node hcat (fun t ht => nmLe_up (by omega) (allL_mem (all_self HNM.out).2 t ht)), hN⟩
        obtain ⟨y0, y1, y2⟩ := cell_of3 HZ4.out
        obtain ⟨g0, g1, g2⟩ := cells_free HZ4.out
        obtain ⟨r0, r1, r2⟩ := cell_of3 HR4.out
        obtain ⟨f0, f1, f2⟩ := cells_free HR4.out
        have hrl := lt_of_block HR4.out
        have hyl := lt_of_block HZ4.out
        clear hset hf6
        go_wp2_with fail
        refine bodyPost_ret (v := .agg #[.int .i64 op, .string (name ++ sx), .slice a5 ts.length c5]) (by simp [results, Tryz.results11, go_sem, r0, r1, r2, hrl, hp4, hp4']) rfl ?_
        exact HE.out.done
      · go_wp2_with fail
        have x2 := (cell_of3 HZ3.out).2.2
        have y2 := (cells_free HZ3.out).2.2
        have HO3d := hidIt (HO3.out.go (Below.refl _ _).drew)
        have HS3d := hidIt (HS3.out.grow (only_of_below (Below.refl _ _).drew none))
        have hbW : b < W3.heap.size := HS3.out.lt
        have hW0 : W0.heap.size ≤ W3.heap.size := by omega
        have HOB := hidIt (HO3.out.block)
        have HOW : Hid (∀ i, ((S i ∧ i < w.heap.size) ∨ W3.heap.size ≤ i) → (Value.slice a5 ts.length c5).ownBlock ≠ some i) := fun i hi e => by
          have h1 := HOB.out i e
          have h2 := HSZ0.out
          omega
        go_region_law (first
          | ((refine step_append_formG (by rfl) (.tmp 63) (.tmp 66) (by rfl) W0.heap.size (fun i => (S i ∧ i < w.heap.size) ∨ W3.heap.size ≤ i) (.slice a5 ts.length c5) ts (by rfl) (((HO3d.out.kept hg4 (fun g e => by injection e with e; subst e; exact ⟨fun e2 => by have := (HOB.out _ e2).1; omega, fun h => HSB.out h.1⟩)).go (Grows.alloc _ _)).mono (fun i h => .inl h)) HOW.out _ 1 (by rfl) (heap_alloc_new W4 _) t2 ((hf2.mono (fun i _ hi => .inr hi)).go (Grows.alloc _ _)) (by omega) (by have h1 : W3.heap.size ≤ W4.heap.size := hg4.size; simp; omega) ?_); intro a6 c6 W5 hown5 hg5 hbl5; have hz5 : W5.heap[p5]? = some (.cells #[.int .i64 op, .string name, .slice a5 ts.length c5] 24 (0, 0)) := (hg5.block p5 (lt_of_block (blk_kept hz4 (Grows.alloc _ _))) (fun e => HNE.out e.symm)).trans (blk_kept hz4 (Grows.alloc _ _)); have x5 := (cell_of3 hz5).2.2; have y5 := (cells_free hz5).2.2; have l5 := lt_of_block hz5)
          | (go_simp; go_at_call 10; refine (sform_any 3 (by omega) (by omega) 1 (by omega) B b zs k3 _ HS3d.out).mono ?_; rintro e W4 ⟨t2, o2, s2, a2, m2, c2, k4, rfl, hgood, hdep, hf2, hs4, hg4⟩; have hz4 : W4.heap[p5]? = some (.cells #[.int .i64 op, .string name, .slice a5 ts.length c5] 24 (0, 0)) := (hg4.block p5 h5p3 (fun e => hp5b (by injection e with e; exact e.symm))).trans HZ3.out; have x3 := (cell_of3 hz4).2.2; have l3 := lt_of_block hz4))
        all_goals
          have hsz4 : W3.heap.size ≤ W4.heap.size := hg4.size
          have hg45 : W4.grownBy (W4.alloc (.cells #[.int .i64 o2, .string s2, .slice a2 m2 c2] 24)) none := only_alloc (only_refl _ _) _
          have hown6 : ∀ g, (Value.slice a5 ts.length c5).ownBlock = some g → W0.heap.size ≤ g ∧ g ≠ b := fun g e => by have := HOB.out g e; omega
          have hs5 := ((hs4.alloc (.cells #[.int .i64 o2, .string s2, .slice a2 m2 c2] 24)).kept hg5 (fun g e => by have h1 := hown6 g e; have h2 := hs4.base; exact ⟨by have := HSZ0.out; omega, h1.2⟩))
          have hgw4 : w.grownBy (W4.alloc (.cells #[.int .i64 o2, .string s2, .slice a2 m2 c2] 24)) (some b) := only_alloc (only_trans (only_trans HG3.out (only_of_below (Below.refl _ _).drew _)) hg4) _
          have hgw5 : w.grownBy W5 (some b) := by
            refine ⟨hg5.os.trans hgw4.os, hg5.tape.trans hgw4.tape, hg5.output.trans hgw4.output, Nat.le_trans hgw4.size hg5.size, fun i hi hne => (hg5.block i (Nat.lt_of_lt_of_le hi hgw4.size) (fun e => ?_)).trans (hgw4.block i hi hne)⟩
            have h1 := hown6 i e.symm
            have h2 := HSZ0.out
            omega
          have hr5 : W5.heap[w.heap.size + 1]? = some (.cells #[.int .i64 0, .string ⟨#[]⟩, .slice none 0 0] 24 (0, 0)) := by
            have h1 : W4.heap[w.heap.size + 1]? = some (.cells #[.int .i64 0, .string ⟨#[]⟩, .slice none 0 0] 24 (0, 0)) := (hg4.block (w.heap.size + 1) (lt_of_block HR3.out) (fun e => by injection e with e; omega)).trans HR3.out
            have h2 := blk_kept h1 (Grows.alloc W4 (.cells #[.int .i64 o2, .string s2, .slice a2 m2 c2] 24))
            exact (hg5.block _ (lt_of_block h2) (fun e => by have h3 := hown6 _ e.symm; have h4 := HSZ0.out; omega)).trans h2
          have hne6 : (Value.slice a6 (ts.length + 1) c6).ownBlock ≠ some p5 := fun e => by
            rcases hbl5 with h | h
            · exact HNE.out (h.symm.trans e)
            · rw [h] at e
              injection e with e
              simp at e
              omega
          have hset : W5.grownBy (W5.setCell ⟨p5, 2, none⟩ (.slice a6 (ts.length + 1) c6)) (some p5) := only_setCell (p := ⟨p5, 2, none⟩) (only_refl W5 (some p5)) (.inl rfl) _
          have hle : (ts ++ [t2]).length = ts.length + 1 := by simp
          obtain ⟨a7, c7, e7, hc71, hc72, hf7⟩ := forms_apart (p4 := w.heap.size + 1) hown5 (fun i hi => by omega) hne6 (by have := HSZ0.out; omega) hset
          rw [hle] at e7
          injection e7 with e71 e72 e73
          subst e71 e73
          have hf8 : FormsIn (W5.setCell ⟨p5, 2, none⟩ (.slice a6 (ts.length + 1) c6)) (fun i => (S i ∧ i < w.heap.size) ∨ w.heap.size + 1 < i) a6 (ts ++ [t2]) := hf7.mono fun i _ hi => by
            rcases hi with (h | h) | h
            · exact .inl h
            · exact .inr (by omega)
            · exact .inr h
          have hn2 : t2.nodes ≤ 4 := gen_nodes t2 1 hgood hdep
          have HE : Hid (SpE N (fun i => S i ∧ i < w.heap.size) (.node op name ts) w B b (w.heap.size + 1) p5 zs op name a6 c6 (ts ++ [t2]) (W5.setCell ⟨p5, 2, none⟩ (.slice a6 (ts.length + 1) c6))) :=
            ⟨hbl, by omega, fun i h => h.2, ⟨_, hs5.kept hset (fun g' e => by have := hs5.base; injection e with e; exact ⟨by omega, by omega⟩)⟩, by rw [hle]; exact setCell_heap_self hz5 _, by rw [hset.block _ (lt_of_block hr5) (fun e => hp4 (by injection e))]; exact hr5, hf8, hop, hc71, hc72, only_new hgw5 hset (by omega), by simp only [Tree.nodes, nodesL_append, nodesL]; omega, nmLe_node (by have := of_decide_eq_true (all_self HNM.out).1; exact Nat.le_trans this (by omega)) (fun t ht => by
              rcases List.mem_append.1 ht with h | h
              · exact nmLe_up (by omega) (allL_mem (all_self HNM.out).2 t h)
              · rw [List.mem_singleton.1 h]
                exact nmLe_gen (by omega) hgood), hN⟩
          obtain ⟨q0, q1, q2⟩ := cell_of3 hz5
          obtain ⟨g0, g1, g2⟩ := cells_free hz5
          obtain ⟨r0, r1, r2⟩ := cell_of3 hr5
          obtain ⟨f0, f1, f2⟩ := cells_free hr5
          have hrl := lt_of_block hr5
          clear hset hf7 hf8 hz5 hr5 hgw5 hgw4 hs5 hg45 hown5 hg5 hbl5 hz4 hs4 hg4 hf2 x2 y2
          go_wp2_with fail
          refine bodyPost_ret (v := .agg #[.int .i64 op, .string name, .slice a6 (ts.length + 1) c6]) (by simp [results, Tryz.results11, go_sem, r0, r1, r2, hrl, hp4, hp4']) rfl ?_
          have h9 := HE.out.done
          rw [hle] at h9
          exact h9
      · obtain ⟨g, rfl⟩ : ∃ g, a5 = some ⟨g, 0, none⟩ := by
          obtain ⟨ar, cr, er, -, -, -, h⟩ := HO3.out.row
          injection er with e1 e2 e3
          obtain ⟨g, hg, -⟩ := h h0
          exact ⟨g, e1.trans hg⟩
        obtain ⟨t0, tl, htl⟩ : ∃ t0 tl, ts = t0 :: tl := by
          cases ts with
          | nil => simp at h0
          | cons x y => exact ⟨x, y, rfl⟩
        have hnodt : (Tree.node op name tl).nodes ≤ (Tree.node op name ts).nodes := by rw [htl]; simp only [Tree.nodes, nodesL]; omega
        have hmem : ∀ t ∈ tl, t ∈ ts := fun t ht => by rw [htl]; simp [ht]
        have hlen : ts.length = tl.length + 1 := by rw [htl]; rfl
        have HFT : Hid (∀ W', W3.grownBy W' (some p5) → FormsIn W' (fun i => (S i ∧ i < w.heap.size) ∨ w.heap.size + 1 < i) (some ⟨g, 3, none⟩) tl) := fun W' hg => by
          obtain ⟨a6, c6, e6, -, -, hf6⟩ := forms_apart (p4 := w.heap.size + 1) HO3.out HSUB.out HNE.out (by have := HSZ0.out; omega) hg
          injection e6 with e61 e62 e63
          subst e61
          rw [htl] at hf6
          exact hf6.tail
        have hnmt : (Tree.node op name tl).all (nmLe (N + 1)) = true := nmLe_node (by have := of_decide_eq_true (all_self HNM.out).1; exact Nat.le_trans this (by omega)) (fun t ht => nmLe_up (by omega) (allL_mem (all_self HNM.out).2 t (hmem t ht)))
        have hc5 : tl.length + 1 ≤ c5 := by omega
        have h1n : (1 : Int) ≤ (tl.length : Int) + 1 := by omega
        have HNT := hidIt hnmt
        have HND2 := hidIt hnodt
        clear hnmt hnodt hmem htl HIH HNM
        rw [hlen] at HZ3 h0' ⊢
        clear hlen h0 h0' h5l
        by_cases hc1 : c5 = 1
        case pos =>
          subst hc1
          obtain ⟨n, hn⟩ : ∃ n, n = tl.length := ⟨_, rfl⟩
          have hn0 : n = 0 := by omega
          subst hn0
          rw [← hn] at HZ3 h1n hc5 ⊢
          have htn : tl = [] := List.eq_nil_of_length_eq_zero hn.symm
          subst htn
          clear hn HFT hc5 h1n
          simp only [Nat.zero_add] at HZ3 ⊢
          have hset : W3.grownBy (W3.setCell ⟨p5, 2, none⟩ (.slice (some ⟨g, 0, none⟩) 0 0)) (some p5) := only_setCell (p := ⟨p5, 2, none⟩) (only_refl W3 (some p5)) (.inl rfl) _
          have HE : Hid (SpE N (fun i => S i ∧ i < w.heap.size) (.node op name ts) w B b (w.heap.size + 1) p5 zs op name (some ⟨g, 0, none⟩) 0 [] (W3.setCell ⟨p5, 2, none⟩ (.slice (some ⟨g, 0, none⟩) 0 0))) :=
            ⟨hbl, by omega, fun i h => h.2, ⟨_, HS3.out.kept hset (fun g' e => by have := HS3.out.base; injection e with e; exact ⟨by omega, by omega⟩)⟩, setCell_heap_self HZ3.out _, by rw [hset.block _ (lt_of_block HR3.out) (fun e => hp4 (by injection e))]; exact HR3.out, FormsIn.nil _, hop, Nat.le_refl _, Nat.zero_le _, only_new HG3.out hset (by omega), Nat.le_trans HND2.out (by omega), HNT.out, hN⟩
          obtain ⟨y0, y1, y2⟩ := cell_of3 HZ3.out
          obtain ⟨g0, g1, g2⟩ := cells_free HZ3.out
          obtain ⟨r0, r1, r2⟩ := cell_of3 HR3.out
          obtain ⟨f0, f1, f2⟩ := cells_free HR3.out
          have hrl := lt_of_block HR3.out
          have hyl := lt_of_block HZ3.out
          clear hset
          go_wp2_with fail
          refine bodyPost_ret (v := .agg #[.int .i64 op, .string name, .slice (some ⟨g, 0, none⟩) 0 0]) (by simp [results, Tryz.results11, go_sem, r0, r1, r2, hrl, hp4, hp4']) rfl ?_
          exact HE.out.done
        case neg =>
          have hset : W3.grownBy (W3.setCell ⟨p5, 2, none⟩ (.slice (some ⟨g, 3, none⟩) tl.length (c5 - 1))) (some p5) := only_setCell (p := ⟨p5, 2, none⟩) (only_refl W3 (some p5)) (.inl rfl) _
          have HE : Hid (SpE N (fun i => S i ∧ i < w.heap.size) (.node op name ts) w B b (w.heap.size + 1) p5 zs op name (some ⟨g, 3, none⟩) (c5 - 1) tl (W3.setCell ⟨p5, 2, none⟩ (.slice (some ⟨g, 3, none⟩) tl.length (c5 - 1)))) :=
            ⟨hbl, by omega, fun i h => h.2, ⟨_, HS3.out.kept hset (fun g' e => by have := HS3.out.base; injection e with e; exact ⟨by omega, by omega⟩)⟩, setCell_heap_self HZ3.out _, by rw [hset.block _ (lt_of_block HR3.out) (fun e => hp4 (by injection e))]; exact HR3.out, HFT.out _ hset, hop, by omega, by unfold maxLen; omega, only_new HG3.out hset (by omega), Nat.le_trans HND2.out (by omega), HNT.out, hN⟩
          obtain ⟨y0, y1, y2⟩ := cell_of3 HZ3.out
          obtain ⟨g0, g1, g2⟩ := cells_free HZ3.out
          obtain ⟨r0, r1, r2⟩ := cell_of3 HR3.out
          obtain ⟨f0, f1, f2⟩ := cells_free HR3.out
          have hrl := lt_of_block HR3.out
          have hyl := lt_of_block HZ3.out
          clear hset
          go_wp2_with fail
          refine bodyPost_ret (v := .agg #[.int .i64 op, .string name, .slice (some ⟨g, 3, none⟩) tl.length (c5 - 1)]) (by simp [results, Tryz.results11, go_sem, r0, r1, r2, hrl, hp4, hp4']) rfl ?_
          exact HE.out.done
      · have hz4 : True := trivial
        have hset : W3.grownBy (W3.setCell ⟨p5, 1, none⟩ (.string ⟨#[]⟩)) (some p5) := only_setCell (p := ⟨p5, 1, none⟩) (only_refl W3 (some p5)) (.inl rfl) _
        obtain ⟨a6, c6, e6, hc61, hc62, hf6⟩ := forms_apart (p4 := w.heap.size + 1) HO3.out HSUB.out HNE.out (by have := HSZ0.out; omega) hset
        injection e6 with e61 e62 e63
        subst e61 e63
        have HE : Hid (SpE N (fun i => S i ∧ i < w.heap.size) (.node op name ts) w B b (w.heap.size + 1) p5 zs op ⟨#[]⟩ a5 c5 ts (W3.setCell ⟨p5, 1, none⟩ (.string ⟨#[]⟩))) :=
          ⟨hbl, by omega, fun i h => h.2, ⟨_, HS3.out.kept hset (fun g e => by have := HS3.out.base; injection e with e; exact ⟨by omega, by omega⟩)⟩, setCell_heap_self HZ3.out _, by rw [hset.block _ (lt_of_block HR3.out) (fun e => hp4 (by injection e))]; exact HR3.out, hf6, hop, hc61, hc62, only_new HG3.out hset (by omega), by simp only [Tree.nodes]; omega, nmLe_node (Nat.zero_le _) (fun t ht => nmLe_up (by omega) (allL_mem (all_self HNM.out).2 t ht)), hN⟩
        obtain ⟨y0, y1, y2⟩ := cell_of3 HZ3.out
        obtain ⟨g0, g1, g2⟩ := cells_free HZ3.out
        obtain ⟨r0, r1, r2⟩ := cell_of3 HR3.out
        obtain ⟨f0, f1, f2⟩ := cells_free HR3.out
        have hrl := lt_of_block HR3.out
        have hyl := lt_of_block HZ3.out
        clear hset hf6
        go_wp2_with fail
        refine bodyPost_ret (v := .agg #[.int .i64 op, .string ⟨#[]⟩, .slice a5 ts.length c5]) (by simp [results, Tryz.results11, go_sem, r0, r1, r2, hrl, hp4, hp4']) rfl ?_
        exact HE.out.done
  case neg =>
    have h0' : decide ((0 : Int) < (ts.length : Int)) = false := decide_eq_false (by omega)
    go_wp2_with fail
    generalize (((w1.setCell ⟨p5, 0, none⟩ (.int .i64 op)).setCell ⟨p5, 1, none⟩ (.string name)).setCell ⟨p5, 2, none⟩ (.slice a5 ts.length c5)) = W1 at *
    clear r0 r1 r2 f0 f1 f2
    refine (sn_nat 5 (by omega) (by omega) B b zs k _ HS1.out).mono ?_
    rintro e W3 ⟨z, k3, rfl, hz5, hs3, hg3⟩
    have HS3 := hidIt hs3
    have HG3 := hidIt (only_trans HG1.out hg3)
    have HO3 := hidIt (HO1.out.kept hg3 (fun g e => by injection e with e; subst e; exact ⟨fun e2 => by have := (HO1.out.block _ e2).1; omega, fun h => HSB.out h.1⟩))
    have HR3 := hidIt (by have h1 := HR1.out; rw [← hg3.block _ (lt_of_block h1) (fun e => by injection e with e; omega)] at h1; exact h1 : W3.heap[w.heap.size + 1]? = some (.cells #[.int .i64 0, .string ⟨#[]⟩, .slice none 0 0] 24 (0, 0)))
    have HZ3 := hidIt (by have h1 := HZ5.out; rw [← hg3.block _ (lt_of_block h1) (fun e => by injection e with e; exact hp5b e.symm)] at h1; exact h1 : W3.heap[p5]? = some (.cells #[.int .i64 op, .string name, .slice a5 ts.length c5] 24 (0, 0)))
    have h5p3 : p5 < W3.heap.size := lt_of_block HZ3.out
    clear hs3 hg3
    rcases (by omega : z = 0 ∨ z = 1 ∨ z = 2 ∨ z = 3 ∨ z = 4) with rfl | rfl | rfl | rfl | rfl
    · go_wp2_with fail
      refine (sn_nat 11 (by omega) (by omega) B b zs k3 _ HS3.out).mono ?_
      rintro e W4 ⟨z11, k4, rfl, hz11, hs4, hg4⟩
      have hsub : wrap64 ((z11 : Int) - 1) = (z11 : Int) - 1 := by unfold wrap64; omega
      have HS4 := hidIt hs4
      have HG4 := hidIt (only_trans HG3.out hg4)
      have HO4 := hidIt (HO3.out.kept hg4 (fun g e => by injection e with e; subst e; exact ⟨fun e2 => by have := (HO3.out.block _ e2).1; omega, fun h => HSB.out h.1⟩))
      have HR4 := hidIt (by have h1 := HR3.out; rw [← hg4.block _ (lt_of_block h1) (fun e => by injection e with e; omega)] at h1; exact h1 : W4.heap[w.heap.size + 1]? = some (.cells #[.int .i64 0, .string ⟨#[]⟩, .slice none 0 0] 24 (0, 0)))
      have HZ4 := hidIt (by have h1 := HZ3.out; rw [← hg4.block _ (lt_of_block h1) (fun e => by injection e with e; exact hp5b e.symm)] at h1; exact h1 : W4.heap[p5]? = some (.cells #[.int .i64 op, .string name, .slice a5 ts.length c5] 24 (0, 0)))
      clear hs4 hg4
      have hset : W4.grownBy (W4.setCell ⟨p5, 0, none⟩ (.int .i64 ((z11 : Int) - 1))) (some p5) := only_setCell (p := ⟨p5, 0, none⟩) (only_refl W4 (some p5)) (.inl rfl) _
      obtain ⟨a6, c6, e6, hc61, hc62, hf6⟩ := forms_apart (p4 := w.heap.size + 1) HO4.out HSUB.out HNE.out (by have := HSZ0.out; omega) hset
      injection e6 with e61 e62 e63
      subst e61 e63
      have HE : Hid (SpE N (fun i => S i ∧ i < w.heap.size) (.node op name ts) w B b (w.heap.size + 1) p5 zs ((z11 : Int) - 1) name a5 c5 ts (W4.setCell ⟨p5, 0, none⟩ (.int .i64 ((z11 : Int) - 1)))) :=
        ⟨hbl, by omega, fun i h => h.2, ⟨_, HS4.out.kept hset (fun g e => by have := HS4.out.base; injection e with e; exact ⟨by omega, by omega⟩)⟩, setCell_heap_self HZ4.out _, by rw [hset.block _ (lt_of_block HR4.out) (fun e => hp4 (by injection e))]; exact HR4.out, hf6, by unfold I64; omega, hc61, hc62, only_new HG4.out hset (by omega), by simp only [Tree.nodes]; omega, nmLe_node (by have := of_decide_eq_true (all_self HNM.out).1; exact Nat.le_trans this (by omega)) (fun t ht => nmLe_up (by omega) (allL_mem (all_self HNM.out).2 t ht)), hN⟩
      obtain ⟨y0, y1, y2⟩ := cell_of3 HZ4.out
      obtain ⟨g0, g1, g2⟩ := cells_free HZ4.out
      obtain ⟨r0, r1, r2⟩ := cell_of3 HR4.out
      obtain ⟨f0, f1, f2⟩ := cells_free HR4.out
      have hrl := lt_of_block HR4.out
      have hyl := lt_of_block HZ4.out
      clear hset hf6
      go_wp2_with fail
      refine bodyPost_ret (v := .agg #[.int .i64 ((z11 : Int) - 1), .string name, .slice a5 ts.length c5]) (by simp [results, Tryz.results11, go_sem, r0, r1, r2, hrl, hp4, hp4']) rfl ?_
      exact HE.out.done
    · go_wp2_with fail
      have Y1 : ∀ wx, (W3.grownBy wx (some b) ∧ ∃ q, SrcAt wx B b zs q) → wx.cell? ⟨p5, 1, none⟩ = some (.string name) := fun wx hC => hC.1.cell (cell_of3 HZ3.out).2.1 (fun e => hp5b (by injection e with e; exact e.symm))
      have hbW : b < W3.heap.size := HS3.out.lt
      have hyl := lt_of_block HZ3.out
      have hnmz : name.size ≤ N := of_decide_eq_true (all_self HNM.out).1
      haveI : Nonempty (In fun wx => W3.grownBy wx (some b) ∧ ∃ q, SrcAt wx B b zs q) := ⟨⟨W3, only_refl _ _, _, HS3.out⟩⟩
      refine Own.wp_region_tail 7 (fun wx => W3.grownBy wx (some b) ∧ ∃ q, SrcAt wx B b zs q) (fun x y => x.grownBy y (some b)) (Own.relTab [(56, Own.rA (isTexts W3.heap.size)), (57, Own.rA isShort)]) (by kernel_rfl) (by kernel_rfl) (by kernel_rfl) (by kernel_rfl) (by kernel_rfl) (by kernel_rfl) ⟨fun _ _ h => h.size, fun s r hs v x y hx hy hg hr => ?_⟩ ⟨only_of_below (Below.refl _ _).drew _, _, HS3.out.grow (only_of_below (Below.refl _ _).drew none)⟩ ?_
      · unfold Own.relTab at hs
        split at hs
        · injection hs with hs
          subst hs
          obtain ⟨nb, h1, h2, h3⟩ := hr
          exact ⟨nb, h1, h2, by rw [hg.block nb (lt_of_block h3) (fun e => by injection e with e; omega)]; exact h3⟩
        · unfold Own.relTab at hs
          split at hs
          · injection hs with hs
            subst hs
            exact hr
          · cases hs
      simp only [Own.idleTail]
      repeat (
        refine' Own.walkR_plain (by kernel_rfl) rfl rfl (fun wx hC hL => ?_) ?_
        rotate_left
        · (have hlw := Nat.lt_of_lt_of_le hyl hC.1.size
           simp only [Y1 wx hC, hlw, go_sem]; first | done | (go_simp; exact ⟨rfl, rfl⟩))
        simp only [Act.put, List.setIfInBounds_toArray, List.set_cons_zero, List.set_cons_succ])
      refine Own.walkR_rel (by kernel_rfl) rfl rfl (of_decide_eq_true (by kernel_rfl)) (fun wx hC hL => ?_) (fun v hv => ?_)
      · go_simp
        exact ⟨⟨only_alloc hC.1 _, hC.2.imp fun q h => h.alloc _⟩, only_alloc (only_refl _ _) _, ⟨_, rfl, hC.1.size, heap_alloc_new _ _⟩, fun h => by cases h⟩
      obtain ⟨_, _, nb6, rfl, -⟩ := hv
      simp only [Act.put, List.setIfInBounds_toArray, List.set_cons_zero, List.set_cons_succ]
      refine Own.walkR_rel (by kernel_rfl) rfl rfl (of_decide_eq_true (by kernel_rfl)) (fun wx hC hL => ?_) (fun v hv => ?_)
      · go_simp
        obtain ⟨nb, e, hn1, hn2⟩ : isTexts W3.heap.size (.slice (some ⟨nb6, 0, none⟩) 4 4) wx := hL.get 56 (by simp [Own.more]) (by kernel_rfl) rfl rfl
        injection e with e
        injection e with e
        injection e with e
        subst e
        obtain ⟨q, hq⟩ := hC.2
        refine (stext_any nb6 spS (by decide) (by decide) B b zs q wx hq hn2 (by omega)).mono ?_
        rintro e w' ⟨sx, q', rfl, hmem, hsx, hgx⟩
        exact ⟨_, rfl, ⟨only_trans hC.1 hgx, _, hsx⟩, hgx, ⟨sx, rfl, spS_size sx hmem⟩, fun h => by cases h⟩
      obtain ⟨_, _, sx, rfl, hsx⟩ := hv
      have hcl : ¬ 9223372036854775807 < name.size + sx.size := by omega
      simp only [Act.put, List.setIfInBounds_toArray, List.set_cons_zero, List.set_cons_succ]
      repeat (
        refine' Own.walkR_plain (by kernel_rfl) rfl rfl (fun wx hC hL => ?_) ?_
        rotate_left
        · (have hlw := Nat.lt_of_lt_of_le hyl hC.1.size
           simp only [Y1 wx hC, hlw, go_sem]; first | done | (go_simp; exact ⟨rfl, rfl⟩))
        simp only [Act.put, List.setIfInBounds_toArray, List.set_cons_zero, List.set_cons_succ])
      refine' Own.walkR_idle (by rfl) ?_ ?_
      · exact fun wx _ => only_refl wx (some b)
      refine fun W4 hC4 hK => ?_
      obtain ⟨hg4, k4, hs4⟩ := hC4
      clear hK
      simp only [List.drop_succ_cons, List.drop_zero]
      have HS4 := hidIt hs4
      have HG4 := hidIt (only_trans HG3.out hg4)
      have HO4 := hidIt (HO3.out.kept hg4 (fun g e => by injection e with e; subst e; exact ⟨fun e2 => by have := (HO3.out.block _ e2).1; omega, fun h => HSB.out h.1⟩))
      have HR4 := hidIt (by have h1 := HR3.out; rw [← hg4.block _ (lt_of_block h1) (fun e => by injection e with e; omega)] at h1; exact h1 : W4.heap[w.heap.size + 1]? = some (.cells #[.int .i64 0, .string ⟨#[]⟩, .slice none 0 0] 24 (0, 0)))
      have HZ4 := hidIt (by have h1 := HZ3.out; rw [← hg4.block _ (lt_of_block h1) (fun e => by injection e with e; exact hp5b e.symm)] at h1; exact h1 : W4.heap[p5]? = some (.cells #[.int .i64 op, .string name, .slice a5 ts.length c5] 24 (0, 0)))
      clear hs4 hg4
      have hcat : (name ++ sx).size ≤ N + 1 := by rw [ByteArray.size_append]; omega
      have hset : W4.grownBy (W4.setCell ⟨p5, 1, none⟩ (.string (name ++ sx))) (some p5) := only_setCell (p := ⟨p5, 1, none⟩) (only_refl W4 (some p5)) (.inl rfl) _
      obtain ⟨a6, c6, e6, hc61, hc62, hf6⟩ := forms_apart (p4 := w.heap.size + 1) HO4.out HSUB.out HNE.out (by have := HSZ0.out; omega) hset
      injection e6 with e61 e62 e63
      subst e61 e63
      have HE : Hid (SpE N (fun i => S i ∧ i < w.heap.size) (.node op name ts) w B b (w.heap.size + 1) p5 zs op (name ++ sx) a5 c5 ts (W4.setCell ⟨p5, 1, none⟩ (.string (name ++ sx)))) :=
        ⟨hbl, by omega, fun i h => h.2, ⟨_, HS4.out.kept hset (fun g e => by have := HS4.out.base; injection e with e; exact ⟨by omega, by omega⟩)⟩, setCell_heap_self HZ4.out _, by rw [hset.block _ (lt_of_block HR4.out) (fun e => hp4 (by injection e))]; exact HR4.out, hf6, hop, hc61, hc62, only_new HG4.out hset (by omega), by simp only [Tree.nodes]; omega, nmLe_node hcat (fun t ht => nmLe_up (by omega) (allL_mem (all_self HNM.out).2 t ht)), hN⟩
      obtain ⟨y0, y1, y2⟩ := cell_of3 HZ4.out
      obtain ⟨g0, g1, g2⟩ := cells_free HZ4.out
      obtain ⟨r0, r1, r2⟩ := cell_of3 HR4.out
      obtain ⟨f0, f1, f2⟩ := cells_free HR4.out
      have hrl := lt_of_block HR4.out
      have hyl := lt_of_block HZ4.out
      clear hset hf6
      go_wp2_with fail
      refine bodyPost_ret (v := .agg #[.int .i64 op, .string (name ++ sx), .slice a5 ts.length c5]) (by simp [results, Tryz.results11, go_sem, r0, r1, r2, hrl, hp4, hp4']) rfl ?_
      exact HE.out.done
    · go_wp2_with fail
      have x2 := (cell_of3 HZ3.out).2.2
      have y2 := (cells_free HZ3.out).2.2
      have HO3d := hidIt (HO3.out.go (Below.refl _ _).drew)
      have HS3d := hidIt (HS3.out.grow (only_of_below (Below.refl _ _).drew none))
      have hbW : b < W3.heap.size := HS3.out.lt
      have hW0 : W0.heap.size ≤ W3.heap.size := by omega
      have HOB := hidIt (HO3.out.block)
      have HOW : Hid (∀ i, ((S i ∧ i < w.heap.size) ∨ W3.heap.size ≤ i) → (Value.slice a5 ts.length c5).ownBlock ≠ some i) := fun i hi e => by
        have h1 := HOB.out i e
        have h2 := HSZ0.out
        omega
      go_region_law (first
        | ((refine step_append_formG (by rfl) (.tmp 63) (.tmp 66) (by rfl) W0.heap.size (fun i => (S i ∧ i < w.heap.size) ∨ W3.heap.size ≤ i) (.slice a5 ts.length c5) ts (by rfl) (((HO3d.out.kept hg4 (fun g e => by injection e with e; subst e; exact ⟨fun e2 => by have := (HOB.out _ e2).1; omega, fun h => HSB.out h.1⟩)).go (Grows.alloc _ _)).mono (fun i h => .inl h)) HOW.out _ 1 (by rfl) (heap_alloc_new W4 _) t2 ((hf2.mono (fun i _ hi => .inr hi)).go (Grows.alloc _ _)) (by omega) (by have h1 : W3.heap.size ≤ W4.heap.size := hg4.size; simp; omega) ?_); intro a6 c6 W5 hown5 hg5 hbl5; have hz5 : W5.heap[p5]? = some (.cells #[.int .i64 op, .string name, .slice a5 ts.length c5] 24 (0, 0)) := (hg5.block p5 (lt_of_block (blk_kept hz4 (Grows.alloc _ _))) (fun e => HNE.out e.symm)).trans (blk_kept hz4 (Grows.alloc _ _)); have x5 := (cell_of3 hz5).2.2; have y5 := (cells_free hz5).2.2; have l5 := lt_of_block hz5)
        | (go_simp; go_at_call 10; refine (sform_any 3 (by omega) (by omega) 1 (by omega) B b zs k3 _ HS3d.out).mono ?_; rintro e W4 ⟨t2, o2, s2, a2, m2, c2, k4, rfl, hgood, hdep, hf2, hs4, hg4⟩; have hz4 : W4.heap[p5]? = some (.cells #[.int .i64 op, .string name, .slice a5 ts.length c5] 24 (0, 0)) := (hg4.block p5 h5p3 (fun e => hp5b (by injection e with e; exact e.symm))).trans HZ3.out; have x3 := (cell_of3 hz4).2.2; have l3 := lt_of_block hz4))
      all_goals
        have hsz4 : W3.heap.size ≤ W4.heap.size := hg4.size
        have hg45 : W4.grownBy (W4.alloc (.cells #[.int .i64 o2, .string s2, .slice a2 m2 c2] 24)) none := only_alloc (only_refl _ _) _
        have hown6 : ∀ g, (Value.slice a5 ts.length c5).ownBlock = some g → W0.heap.size ≤ g ∧ g ≠ b := fun g e => by have := HOB.out g e; omega
        have hs5 := ((hs4.alloc (.cells #[.int .i64 o2, .string s2, .slice a2 m2 c2] 24)).kept hg5 (fun g e => by have h1 := hown6 g e; have h2 := hs4.base; exact ⟨by have := HSZ0.out; omega, h1.2⟩))
        have hgw4 : w.grownBy (W4.alloc (.cells #[.int .i64 o2, .string s2, .slice a2 m2 c2] 24)) (some b) := only_alloc (only_trans (only_trans HG3.out (only_of_below (Below.refl _ _).drew _)) hg4) _
        have hgw5 : w.grownBy W5 (some b) := by
          refine ⟨hg5.os.trans hgw4.os, hg5.tape.trans hgw4.tape, hg5.output.trans hgw4.output, Nat.le_trans hgw4.size hg5.size, fun i hi hne => (hg5.block i (Nat.lt_of_lt_of_le hi hgw4.size) (fun e => ?_)).trans (hgw4.block i hi hne)⟩
          have h1 := hown6 i e.symm
          have h2 := HSZ0.out
          omega
        have hr5 : W5.heap[w.heap.size + 1]? = some (.cells #[.int .i64 0, .string ⟨#[]⟩, .slice none 0 0] 24 (0, 0)) := by
          have h1 : W4.heap[w.heap.size + 1]? = some (.cells #[.int .i64 0, .string ⟨#[]⟩, .slice none 0 0] 24 (0, 0)) := (hg4.block (w.heap.size + 1) (lt_of_block HR3.out) (fun e => by injection e with e; omega)).trans HR3.out
          have h2 := blk_kept h1 (Grows.alloc W4 (.cells #[.int .i64 o2, .string s2, .slice a2 m2 c2] 24))
          exact (hg5.block _ (lt_of_block h2) (fun e => by have h3 := hown6 _ e.symm; have h4 := HSZ0.out; omega)).trans h2
        have hne6 : (Value.slice a6 (ts.length + 1) c6).ownBlock ≠ some p5 := fun e => by
          rcases hbl5 with h | h
          · exact HNE.out (h.symm.trans e)
          · rw [h] at e
            injection e with e
            simp at e
            omega
        have hset : W5.grownBy (W5.setCell ⟨p5, 2, none⟩ (.slice a6 (ts.length + 1) c6)) (some p5) := only_setCell (p := ⟨p5, 2, none⟩) (only_refl W5 (some p5)) (.inl rfl) _
        have hle : (ts ++ [t2]).length = ts.length + 1 := by simp
        obtain ⟨a7, c7, e7, hc71, hc72, hf7⟩ := forms_apart (p4 := w.heap.size + 1) hown5 (fun i hi => by omega) hne6 (by have := HSZ0.out; omega) hset
        rw [hle] at e7
        injection e7 with e71 e72 e73
        subst e71 e73
        have hf8 : FormsIn (W5.setCell ⟨p5, 2, none⟩ (.slice a6 (ts.length + 1) c6)) (fun i => (S i ∧ i < w.heap.size) ∨ w.heap.size + 1 < i) a6 (ts ++ [t2]) := hf7.mono fun i _ hi => by
          rcases hi with (h | h) | h
          · exact .inl h
          · exact .inr (by omega)
          · exact .inr h
        have hn2 : t2.nodes ≤ 4 := gen_nodes t2 1 hgood hdep
        have HE : Hid (SpE N (fun i => S i ∧ i < w.heap.size) (.node op name ts) w B b (w.heap.size + 1) p5 zs op name a6 c6 (ts ++ [t2]) (W5.setCell ⟨p5, 2, none⟩ (.slice a6 (ts.length + 1) c6))) :=
          ⟨hbl, by omega, fun i h => h.2, ⟨_, hs5.kept hset (fun g' e => by have := hs5.base; injection e with e; exact ⟨by omega, by omega⟩)⟩, by rw [hle]; exact setCell_heap_self hz5 _, by rw [hset.block _ (lt_of_block hr5) (fun e => hp4 (by injection e))]; exact hr5, hf8, hop, hc71, hc72, only_new hgw5 hset (by omega), by simp only [Tree.nodes, nodesL_append, nodesL]; omega, nmLe_node (by have := of_decide_eq_true (all_self HNM.out).1; exact Nat.le_trans this (by omega)) (fun t ht => by
            rcases List.mem_append.1 ht with h | h
            · exact nmLe_up (by omega) (allL_mem (all_self HNM.out).2 t h)
            · rw [List.mem_singleton.1 h]
              exact nmLe_gen (by omega) hgood), hN⟩
        obtain ⟨q0, q1, q2⟩ := cell_of3 hz5
        obtain ⟨g0, g1, g2⟩ := cells_free hz5
        obtain ⟨r0, r1, r2⟩ := cell_of3 hr5
        obtain ⟨f0, f1, f2⟩ := cells_free hr5
        have hrl := lt_of_block hr5
        clear hset hf7 hf8 hz5 hr5 hgw5 hgw4 hs5 hg45 hown5 hg5 hbl5 hz4 hs4 hg4 hf2 x2 y2
        go_wp2_with fail
        refine bodyPost_ret (v := .agg #[.int .i64 op, .string name, .slice a6 (ts.length + 1) c6]) (by simp [results, Tryz.results11, go_sem, r0, r1, r2, hrl, hp4, hp4']) rfl ?_
        have h9 := HE.out.done
        rw [hle] at h9
        exact h9
    · have hset : W3.grownBy W3 (some p5) := only_refl W3 (some p5)
      obtain ⟨a6, c6, e6, hc61, hc62, hf6⟩ := forms_apart (p4 := w.heap.size + 1) HO3.out HSUB.out HNE.out (by have := HSZ0.out; omega) hset
      injection e6 with e61 e62 e63
      subst e61 e63
      have HE : Hid (SpE N (fun i => S i ∧ i < w.heap.size) (.node op name ts) w B b (w.heap.size + 1) p5 zs op name a5 c5 ts W3) :=
        ⟨hbl, by omega, fun i h => h.2, ⟨_, HS3.out⟩, HZ3.out, HR3.out, hf6, hop, hc61, hc62, HG3.out, by simp only [Tree.nodes]; omega, nmLe_node (by have := of_decide_eq_true (all_self HNM.out).1; exact Nat.le_trans this (by omega)) (fun t ht => nmLe_up (by omega) (allL_mem (all_self HNM.out).2 t ht)), hN⟩
      obtain ⟨y0, y1, y2⟩ := cell_of3 HZ3.out
      obtain ⟨r0, r1, r2⟩ := cell_of3 HR3.out
      obtain ⟨f0, f1, f2⟩ := cells_free HR3.out
      have hrl := lt_of_block HR3.out
      have hyl := lt_of_block HZ3.out
      clear hset hf6
      go_wp2_with fail
      refine bodyPost_ret (v := .agg #[.int .i64 op, .string name, .slice a5 ts.length c5]) (by simp [results, Tryz.results11, go_sem, r0, r1, r2, hrl, hp4, hp4']) rfl ?_
      exact HE.out.done
    · have hz4 : True := trivial
      have hset : W3.grownBy (W3.setCell ⟨p5, 1, none⟩ (.string ⟨#[]⟩)) (some p5) := only_setCell (p := ⟨p5, 1, none⟩) (only_refl W3 (some p5)) (.inl rfl) _
      obtain ⟨a6, c6, e6, hc61, hc62, hf6⟩ := forms_apart (p4 := w.heap.size + 1) HO3.out HSUB.out HNE.out (by have := HSZ0.out; omega) hset
      injection e6 with e61 e62 e63
      subst e61 e63
      have HE : Hid (SpE N (fun i => S i ∧ i < w.heap.size) (.node op name ts) w B b (w.heap.size + 1) p5 zs op ⟨#[]⟩ a5 c5 ts (W3.setCell ⟨p5, 1, none⟩ (.string ⟨#[]⟩))) :=
        ⟨hbl, by omega, fun i h => h.2, ⟨_, HS3.out.kept hset (fun g e => by have := HS3.out.base; injection e with e; exact ⟨by omega, by omega⟩)⟩, setCell_heap_self HZ3.out _, by rw [hset.block _ (lt_of_block HR3.out) (fun e => hp4 (by injection e))]; exact HR3.out, hf6, hop, hc61, hc62, only_new HG3.out hset (by omega), by simp only [Tree.nodes]; omega, nmLe_node (Nat.zero_le _) (fun t ht => nmLe_up (by omega) (allL_mem (all_self HNM.out).2 t ht)), hN⟩
      obtain ⟨y0, y1, y2⟩ := cell_of3 HZ3.out
      obtain ⟨g0, g1, g2⟩ := cells_free HZ3.out
      obtain ⟨r0, r1, r2⟩ := cell_of3 HR3.out
      obtain ⟨f0, f1, f2⟩ := cells_free HR3.out
      have hrl := lt_of_block HR3.out
      have hyl := lt_of_block HZ3.out
      clear hset hf6
      go_wp2_with fail
      refine bodyPost_ret (v := .agg #[.int .i64 op, .string ⟨#[]⟩, .slice a5 ts.length c5]) (by simp [results, Tryz.results11, go_sem, r0, r1, r2, hrl, hp4, hp4']) rfl ?_
      exact HE.out.done
end Go.Proofs.YtilkpjcbmllgmaaGreatDoor

namespace Go.Proofs.YtilkpjcbmllgmaaGreatDoor
set_option linter.unusedVariables false
set_option linter.unusedSimpArgs false
open Go Go.RowKit

/-- Names of built formulas are short. -/
theorem nodeG_short {n : Nat} {t : Tree} (h : nodeG n t = true) : nmLe 12 t = true := by
  unfold nmLe
  rw [decide_eq_true_eq]
  by_cases ho : t.op = 3
  · obtain ⟨m, -, e⟩ := nodeG_atom h ho
    rw [e]
    exact Nat.le_trans (Nat.le_of_eq rfl) (by omega : 1 ≤ 12)
  · have := nodeG_name h
    unfold nameB at this
    rw [if_neg ho] at this
    have : t.name.size = 0 := by simpa using this
    omega
theorem nmLe_all {t : Tree} {n N : Nat} (h : t.all (nodeG n) = true) (hN : 12 ≤ N) : t.all (nmLe N) = true := nmLe_up hN (all_imp (fun t => nodeG_short) t h)

/-- A formula outside block b, not large. -/
def isF (b M N : Nat) : Value → World → Prop := fun v w => ∃ (T : Tree) (o : Int) (s : ByteArray) (a : Option Addr) (m c : Nat), v = .agg #[.int .i64 o, .string s, .slice a m c] ∧ T.nodes ≤ M ∧ T.all (nmLe N) = true ∧ FormIn w (fun i => i ≠ b) (.agg #[.int .i64 o, .string s, .slice a m c]) T

theorem FormIn.keptB {w w' : World} {b : Nat} {v : Value} {t : Tree} (h : FormIn w (fun i => i ≠ b) v t) (hg : w.grownBy w' (some b)) : FormIn w' (fun i => i ≠ b) v t := h.kept fun i hi hl => hg.block i hl (fun e => hi (by injection e))
theorem isF_kept {b M N : Nat} {v : Value} {w w' : World} (hg : w.grownBy w' (some b)) (h : isF b M N v w) : isF b M N v w' := by
  obtain ⟨T, o, s, a, m, c, h1, h2, h3, h4⟩ := h
  exact ⟨T, o, s, a, m, c, h1, h2, h3, h4.keptB hg⟩
theorem spoilt_rel {B b N M : Nat} {zs : List Int} (hN12 : 12 ≤ N) (hN : N ≤ 1000) (hM : M ≤ 1000) {W w : World} {v : Value} (hC : W.grownBy w (some b) ∧ ∃ q, SrcAt w B b zs q) (hv : isF b M N v w) :
    Calls Tryz.prog 11 #[.pointer (some ⟨b, 0, none⟩), v] w fun e w'' => ∃ u, e = .returned u ∧ (W.grownBy w'' (some b) ∧ ∃ q, SrcAt w'' B b zs q) ∧ w.grownBy w'' (some b) ∧ isF b (M + 20) (N + 1) u w'' := by
  obtain ⟨hC1, q, hq⟩ := hC
  obtain ⟨T, o, s, a, m, c, rfl, h2, h3, h4⟩ := hv
  have hbl := hq.lt
  refine (spoilt_any N hN12 hN T (by omega) h3 B b zs q (fun i => i ≠ b) _ w hq (fun h => h rfl) h4).mono ?_
  rintro e w'' ⟨T', o', s', a', m', c', q', rfl, g1, g2, g3, g4, g5⟩
  exact ⟨_, rfl, ⟨only_trans hC1 g5, _, g4⟩, g5, T', o', s', a', m', c', rfl, by omega, g2, g3.mono fun i _ hi => by
    rcases hi with hi | hi
    · exact hi.1
    · omega⟩


/-- A row of formulas outside block b. -/
def RowFn (n b g : Nat) (w : World) : Prop := ∀ k, k < n → ∃ (T : Tree) (o : Int) (s : ByteArray) (a : Option Addr) (m c : Nat), w.cell? ⟨g, k * 3, none⟩ = some (.int .i64 o) ∧ w.cell? ⟨g, k * 3 + 1, none⟩ = some (.string s) ∧ w.cell? ⟨g, k * 3 + 2, none⟩ = some (.slice a m c) ∧
  T.nodes ≤ 1000 ∧ FormIn w (fun i => i ≠ b) (.agg #[.int .i64 o, .string s, .slice a m c]) T
def isRowFn (n b : Nat) : Value → World → Prop := fun v w => ∃ g : Nat, v = .slice (some ⟨g, 0, none⟩) n n ∧ g ≠ b ∧ g < w.heap.size ∧ RowFn n b g w
theorem isRowFn_kept {n b : Nat} {v : Value} {w w' : World} (hg : w.grownBy w' (some b)) (h : isRowFn n b v w) : isRowFn n b v w' := by
  obtain ⟨g, h1, h2, h3, h4⟩ := h
  refine ⟨g, h1, h2, Nat.lt_of_lt_of_le h3 hg.size, fun k hk => ?_⟩
  obtain ⟨T, o, s, a, m, c, c0, c1, c2, hn, hf⟩ := h4 k hk
  have e := hg.block g h3 (fun e => h2 (by injection e))
  exact ⟨T, o, s, a, m, c, (World.cell?_of_block (a := ⟨g, _, none⟩) e).trans c0, (World.cell?_of_block (a := ⟨g, _, none⟩) e).trans c1, (World.cell?_of_block (a := ⟨g, _, none⟩) e).trans c2, hn, hf.keptB hg⟩

theorem row_three {b : Nat} {w : World} {T0 T1 T2 : Tree} {o0 o1 o2 : Int} {s0 s1 s2 : ByteArray} {a0 a1 a2 : Option Addr} {m0 m1 m2 c0 c1 c2 : Nat}
    (n0 : T0.nodes ≤ 1000) (n1 : T1.nodes ≤ 1000) (n2 : T2.nodes ≤ 1000)
    (f0 : FormIn w (fun i => i ≠ b) (.agg #[.int .i64 o0, .string s0, .slice a0 m0 c0]) T0) (f1 : FormIn w (fun i => i ≠ b) (.agg #[.int .i64 o1, .string s1, .slice a1 m1 c1]) T1)
    (f2 : FormIn w (fun i => i ≠ b) (.agg #[.int .i64 o2, .string s2, .slice a2 m2 c2]) T2) (hb : b < w.heap.size) :
    isRowFn 3 b (.slice (some ⟨w.heap.size, 0, none⟩) 3 3) (w.alloc (.cells #[.int .i64 o0, .string s0, .slice a0 m0 c0, .int .i64 o1, .string s1, .slice a1 m1 c1, .int .i64 o2, .string s2, .slice a2 m2 c2] 24)) := by
  have hg : w.grownBy (w.alloc (.cells #[.int .i64 o0, .string s0, .slice a0 m0 c0, .int .i64 o1, .string s1, .slice a1 m1 c1, .int .i64 o2, .string s2, .slice a2 m2 c2] 24)) (some b) := only_alloc (only_refl _ _) _
  have hK := heap_alloc_new w (.cells #[.int .i64 o0, .string s0, .slice a0 m0 c0, .int .i64 o1, .string s1, .slice a1 m1 c1, .int .i64 o2, .string s2, .slice a2 m2 c2] 24)
  have hl := lt_of_block hK
  generalize (w.alloc (.cells #[.int .i64 o0, .string s0, .slice a0 m0 c0, .int .i64 o1, .string s1, .slice a1 m1 c1, .int .i64 o2, .string s2, .slice a2 m2 c2] 24)) = w' at *
  refine ⟨_, rfl, by omega, hl, fun k hk => ?_⟩
  rcases (by omega : k = 0 ∨ k = 1 ∨ k = 2) with rfl | rfl | rfl
  · exact ⟨T0, o0, s0, a0, m0, c0, by simp [World.cell?, hK], by simp [World.cell?, hK], by simp [World.cell?, hK], n0, f0.keptB hg⟩
  · exact ⟨T1, o1, s1, a1, m1, c1, by simp [World.cell?, hK], by simp [World.cell?, hK], by simp [World.cell?, hK], n1, f1.keptB hg⟩
  · exact ⟨T2, o2, s2, a2, m2, c2, by simp [World.cell?, hK], by simp [World.cell?, hK], by simp [World.cell?, hK], n2, f2.keptB hg⟩

theorem row_four {b : Nat} {w : World} {T0 T1 T2 T3 : Tree} {o0 o1 o2 o3 : Int} {s0 s1 s2 s3 : ByteArray} {a0 a1 a2 a3 : Option Addr} {m0 m1 m2 m3 c0 c1 c2 c3 : Nat}
    (n0 : T0.nodes ≤ 1000) (n1 : T1.nodes ≤ 1000) (n2 : T2.nodes ≤ 1000) (n3 : T3.nodes ≤ 1000)
    (f0 : FormIn w (fun i => i ≠ b) (.agg #[.int .i64 o0, .string s0, .slice a0 m0 c0]) T0) (f1 : FormIn w (fun i => i ≠ b) (.agg #[.int .i64 o1, .string s1, .slice a1 m1 c1]) T1)
    (f2 : FormIn w (fun i => i ≠ b) (.agg #[.int .i64 o2, .string s2, .slice a2 m2 c2]) T2) (f3 : FormIn w (fun i => i ≠ b) (.agg #[.int .i64 o3, .string s3, .slice a3 m3 c3]) T3) (hb : b < w.heap.size) :
    isRowFn 4 b (.slice (some ⟨w.heap.size, 0, none⟩) 4 4) (w.alloc (.cells #[.int .i64 o0, .string s0, .slice a0 m0 c0, .int .i64 o1, .string s1, .slice a1 m1 c1, .int .i64 o2, .string s2, .slice a2 m2 c2, .int .i64 o3, .string s3, .slice a3 m3 c3] 24)) := by
  have hg : w.grownBy (w.alloc (.cells #[.int .i64 o0, .string s0, .slice a0 m0 c0, .int .i64 o1, .string s1, .slice a1 m1 c1, .int .i64 o2, .string s2, .slice a2 m2 c2, .int .i64 o3, .string s3, .slice a3 m3 c3] 24)) (some b) := only_alloc (only_refl _ _) _
  have hK := heap_alloc_new w (.cells #[.int .i64 o0, .string s0, .slice a0 m0 c0, .int .i64 o1, .string s1, .slice a1 m1 c1, .int .i64 o2, .string s2, .slice a2 m2 c2, .int .i64 o3, .string s3, .slice a3 m3 c3] 24)
  have hl := lt_of_block hK
  generalize (w.alloc (.cells #[.int .i64 o0, .string s0, .slice a0 m0 c0, .int .i64 o1, .string s1, .slice a1 m1 c1, .int .i64 o2, .string s2, .slice a2 m2 c2, .int .i64 o3, .string s3, .slice a3 m3 c3] 24)) = w' at *
  refine ⟨_, rfl, by omega, hl, fun k hk => ?_⟩
  rcases (by omega : k = 0 ∨ k = 1 ∨ k = 2 ∨ k = 3) with rfl | rfl | rfl | rfl
  · exact ⟨T0, o0, s0, a0, m0, c0, by simp [World.cell?, hK], by simp [World.cell?, hK], by simp [World.cell?, hK], n0, f0.keptB hg⟩
  · exact ⟨T1, o1, s1, a1, m1, c1, by simp [World.cell?, hK], by simp [World.cell?, hK], by simp [World.cell?, hK], n1, f1.keptB hg⟩
  · exact ⟨T2, o2, s2, a2, m2, c2, by simp [World.cell?, hK], by simp [World.cell?, hK], by simp [World.cell?, hK], n2, f2.keptB hg⟩
  · exact ⟨T3, o3, s3, a3, m3, c3, by simp [World.cell?, hK], by simp [World.cell?, hK], by simp [World.cell?, hK], n3, f3.keptB hg⟩
end Go.Proofs.YtilkpjcbmllgmaaGreatDoor

namespace Go.Proofs.YtilkpjcbmllgmaaGreatDoor
set_option linter.unusedVariables false
set_option linter.unusedSimpArgs false
open Go Go.RowKit

/-- Is the name short? -/
def shortB (t : Tree) : Bool := decide (t.name.size ≤ 100)

set_option maxRecDepth 100000 in
set_option maxHeartbeats 1000000 in
theorem knodes_any : ∀ (t : Tree) (m : Nat) (v : Value) (w : World), FormAt w none v t → m ≤ 1000000 →
    Calls Tryz.prog 8 #[v, .int .i64 (m : Int)] w fun e w' => e = .returned (.int .i64 ((min t.nodes (m + 1) : Nat) : Int)) ∧ Below w.heap.size w w' := by
  refine Tree.ind fun op name ts ih m v w hv hm1 => ?_
  obtain ⟨a, cap, b, off, rfl, hop, hname, hlen, hcap, -, -⟩ := hv.form
  have HV := hidIt hv.forms
  simp only [Tree.op_node, Tree.name_node, Tree.args_node] at *
  have HN : Hid ((Tree.node op name ts).nodes = 1 + nodesL ts) := by show _ = _; simp [Tree.nodes]
  have IH := hidIt ih
  unfold maxLen at hcap
  clear ih hv
  go_enter Tryz.func8, Tryz.ntmps8
  go_wp2_with fail
  have hb0 : Below w.heap.size w (w.alloc (.cells #[.int .i64 op, .string name, .slice a ts.length cap] 24)) := (Below.refl _ _).alloc (Nat.le_refl _) _
  have HB0 := hidIt hb0
  have HX : Hid ((w.alloc (.cells #[.int .i64 op, .string name, .slice a ts.length cap] 24)).heap[w.heap.size]? = some (.cells #[.int .i64 op, .string name, .slice a ts.length cap] 24 (0, 0))) := heap_alloc_new w _
  clear hb0
  generalize (w.alloc (.cells #[.int .i64 op, .string name, .slice a ts.length cap] 24)) = W at *
  go_loopw [5, 6, 10] (fun t _ i wr => ∃ k : Nat, k ≤ ts.length ∧ i = .int .i64 k ∧ t = .int .i64 ((min (1 + nodesL (ts.take k)) (m + 1) : Nat) : Int) ∧ Hid (Below W.heap.size W wr)) (fun _ _ i _ => ts.length - (intOf i).toNat)
  case atStart => exact ⟨0, Nat.zero_le _, rfl, by simp [nodesL], Below.refl _ _⟩
  case round =>
    obtain ⟨k, hk, rfl, rfl, hbel⟩ := hrel
    have HBw := hidIt (HB0.out.trans (hbel.out.mono HB0.out.size))
    have kX := blk_kept HX.out hbel.out
    obtain ⟨x0, x1, x2⟩ := cell_of3 kX
    have hlx := lt_of_block kX
    clear kX
    by_cases hlt : k < ts.length
    · obtain ⟨b', off', a', c', rfl, c0, c1, c2, hf⟩ := (HV.out.go HBw.out).at k hlt
      have HF := hidIt hf
      have HS := hidIt (nodesL_take ts k hlt)
      have HS2 := hidIt (nodesL_take_le ts k)
      have hm : ts[k] ∈ ts := List.getElem_mem hlt
      clear hf
      generalize ts[k] = t at *
      have hlt0 : (k : Int) < (ts.length : Int) := by omega
      have hk0 : (0 : Int) ≤ (k : Int) := by omega
      by_cases hbig : m < 1 + nodesL (ts.take k)
      · have hc : min (1 + nodesL (ts.take k)) (m + 1) = m + 1 := by omega
        have HE : Hid (min (Tree.node op name ts).nodes (m + 1) = m + 1) := by show _ = _; rw [HN.out]; have := HS2.out; omega
        rw [hc]
        have hgt : (m : Int) < ((m + 1 : Nat) : Int) := by omega
        clear hc hbig
        go_wp2_with fail
        go_ret
        exact ⟨ret_int (by rw [HE.out]), HBw.out⟩
      · have hc : min (1 + nodesL (ts.take k)) (m + 1) = 1 + nodesL (ts.take k) := by omega
        rw [hc]
        obtain ⟨z, hz⟩ : ∃ z, z = 1 + nodesL (ts.take k) := ⟨_, rfl⟩
        have HZ := hidIt hz
        rw [← hz]
        have hzm : z ≤ m := by omega
        have hgt : decide ((m : Int) < (z : Int)) = false := by simp; omega
        have hsub : wrap64 ((m : Int) - (z : Int)) = (m : Int) - (z : Int) := by unfold wrap64; omega
        have HIH := hidIt (fun v w h => IH.out t hm (m - z) v w h (by omega))
        rw [show ((m - z : Nat) : Int) = (m : Int) - (z : Int) by omega] at HIH
        have HST : Hid (min (1 + nodesL (ts.take (k + 1))) (m + 1) = z + min t.nodes (m - z + 1)) := by show _ = _; rw [HS.out, HZ.out]; omega
        have hle : min t.nodes (m - z + 1) ≤ 1000001 := by omega
        generalize min t.nodes (m - z + 1) = y at *
        clear hc hbig hz
        go_wp2_with fail
        refine (HIH.out _ _ HF.out).mono ?_
        rintro e w5 ⟨rfl, h5⟩
        have HB5 : Hid (Below W.heap.size W w5) := hbel.out.trans (Below.mono h5 hbel.out.size)
        clear h5
        go_wp2_with fail
        go_roundw
        case rel => exact ⟨k + 1, by omega, by go_num, by rw [HST.out]; go_num, HB5.out⟩
        case measure => simp [intOf]; omega
    · go_wp2_with fail
      go_ret
      exact ⟨ret_int (by rw [HN.out, List.take_of_length_le (by omega)]), HBw.out⟩

set_option maxRecDepth 100000 in
set_option maxHeartbeats 1000000 in
theorem klevels_any : ∀ (t : Tree) (m : Nat) (q : Int) (v : Value) (w : World), FormAt w none v t → m ≤ 1000000 → q + 1 = (m : Int) →
    Calls Tryz.prog 45 #[v, .int .i64 q] w fun e w' => e = .returned (.int .i64 ((min t.depth m : Nat) : Int)) ∧ Below w.heap.size w w' := by
  refine Tree.ind fun op name ts ih m q v w hv hm1 hq => ?_
  obtain ⟨a, cap, b, off, rfl, hop, hname, hlen, hcap, -, -⟩ := hv.form
  have HV := hidIt hv.forms
  simp only [Tree.op_node, Tree.name_node, Tree.args_node] at *
  have HD : Hid ((Tree.node op name ts).depth = depthL ts) := by show _ = _; simp [Tree.depth]
  have IH := hidIt ih
  unfold maxLen at hcap
  clear ih hv
  by_cases hm0 : m = 0
  case pos =>
    have hq0 : q < 0 := by omega
    have HE : Hid (min (Tree.node op name ts).depth m = 0) := by show _ = _; rw [hm0]; simp
    go_enter Tryz.func45, Tryz.ntmps45
    go_wp2_with fail
    go_ret
    exact ⟨ret_int (by rw [HE.out]; rfl), (Below.refl _ _).alloc (Nat.le_refl _) _⟩
  case neg =>
  have hq0 : decide (q < 0) = false := by simp; omega
  have hqs : wrap64 (q - 1) = q - 1 := by unfold wrap64; omega
  obtain ⟨m', rfl⟩ : ∃ m', m = m' + 1 := ⟨m - 1, by omega⟩
  have hq1 : q - 1 + 1 = (m' : Int) := by omega
  have hql : q ≤ 1000000 := by omega
  clear hq hm0
  go_enter Tryz.func45, Tryz.ntmps45
  go_wp2_with fail
  have hb0 : Below w.heap.size w (w.alloc (.cells #[.int .i64 op, .string name, .slice a ts.length cap] 24)) := (Below.refl _ _).alloc (Nat.le_refl _) _
  have HB0 := hidIt hb0
  have HX : Hid ((w.alloc (.cells #[.int .i64 op, .string name, .slice a ts.length cap] 24)).heap[w.heap.size]? = some (.cells #[.int .i64 op, .string name, .slice a ts.length cap] 24 (0, 0))) := heap_alloc_new w _
  clear hb0
  generalize (w.alloc (.cells #[.int .i64 op, .string name, .slice a ts.length cap] 24)) = W at *
  go_loopw [5, 6, 12] (fun t _ i wr => ∃ k : Nat, k ≤ ts.length ∧ i = .int .i64 k ∧ t = .int .i64 ((min (depthL (ts.take k)) (m' + 1) : Nat) : Int) ∧ Hid (Below W.heap.size W wr)) (fun _ _ i _ => ts.length - (intOf i).toNat)
  case atStart => exact ⟨0, Nat.zero_le _, rfl, by simp [depthL], Below.refl _ _⟩
  case round =>
    obtain ⟨k, hk, rfl, rfl, hbel⟩ := hrel
    have HBw := hidIt (HB0.out.trans (hbel.out.mono HB0.out.size))
    have kX := blk_kept HX.out hbel.out
    obtain ⟨x0, x1, x2⟩ := cell_of3 kX
    have hlx := lt_of_block kX
    clear kX
    by_cases hlt : k < ts.length
    · obtain ⟨b', off', a', c', rfl, c0, c1, c2, hf⟩ := (HV.out.go HBw.out).at k hlt
      have HF := hidIt hf
      have HS := hidIt (depthL_take ts k hlt)
      have hm : ts[k] ∈ ts := List.getElem_mem hlt
      clear hf
      generalize ts[k] = t at *
      have hlt0 : (k : Int) < (ts.length : Int) := by omega
      have hk0 : (0 : Int) ≤ (k : Int) := by omega
      have HIH := hidIt (fun v w h => IH.out t hm m' (q - 1) v w h (by omega) hq1)
      obtain ⟨y, hy⟩ : ∃ y, y = min t.depth m' := ⟨_, rfl⟩
      obtain ⟨z, hz⟩ : ∃ z, z = min (depthL (ts.take k)) (m' + 1) := ⟨_, rfl⟩
      have HST : Hid (min (depthL (ts.take (k + 1))) (m' + 1) = max z (1 + y)) := by show _ = _; rw [HS.out, hz, hy]; omega
      rw [← hy] at HIH
      rw [← hz]
      have hyl : y ≤ 1000000 := by omega
      have hzl : z ≤ 1000001 := by omega
      clear hy hz
      go_wp2_with fail
      refine (HIH.out _ _ HF.out).mono ?_
      rintro e w5 ⟨rfl, h5⟩
      have HB5 : Hid (Below W.heap.size W w5) := hbel.out.trans (Below.mono h5 hbel.out.size)
      clear h5
      go_wp2_with fail
      go_roundw
      case rel => exact ⟨k + 1, by omega, by go_num, by rw [HST.out]; go_num, HB5.out⟩
      case measure => simp [intOf]; omega
    · go_wp2_with fail
      go_ret
      exact ⟨ret_int (by rw [HD.out, List.take_of_length_le (by omega)]), HBw.out⟩

set_option maxRecDepth 100000 in
set_option maxHeartbeats 1000000 in
theorem kshort_any : ∀ (t : Tree) (v : Value) (w : World), FormAt w none v t →
    Calls Tryz.prog 46 #[v] w fun e w' => e = .returned (.bool (t.all shortB)) ∧ Below w.heap.size w w' := by
  refine Tree.ind fun op name ts ih v w hv => ?_
  obtain ⟨a, cap, b, off, rfl, hop, hname, hlen, hcap, -, -⟩ := hv.form
  have HV := hidIt hv.forms
  simp only [Tree.op_node, Tree.name_node, Tree.args_node] at *
  have IH := hidIt ih
  unfold maxLen at hcap
  clear ih hv
  by_cases hs : 100 < name.size
  case pos =>
    have hs' : (100 : Int) < (name.size : Int) := by omega
    have HE : Hid ((Tree.node op name ts).all shortB = false) := by
      show _ = _
      rw [Tree.all, shortB, Tree.name_node, decide_eq_false (by omega), Bool.false_and]
    go_enter Tryz.func46, Tryz.ntmps46
    go_wp2_with fail
    go_ret
    exact ⟨ret_bool HE.out.symm, (Below.refl _ _).alloc (Nat.le_refl _) _⟩
  case neg =>
  have hs' : decide ((100 : Int) < (name.size : Int)) = false := by simp; omega
  have HE : Hid ((Tree.node op name ts).all shortB = allL shortB ts) := by
    show _ = _
    rw [Tree.all, shortB, Tree.name_node, decide_eq_true (by omega), Bool.true_and]
  clear hs
  go_enter Tryz.func46, Tryz.ntmps46
  go_wp2_with fail
  have hb0 : Below w.heap.size w (w.alloc (.cells #[.int .i64 op, .string name, .slice a ts.length cap] 24)) := (Below.refl _ _).alloc (Nat.le_refl _) _
  have HB0 := hidIt hb0
  have HX : Hid ((w.alloc (.cells #[.int .i64 op, .string name, .slice a ts.length cap] 24)).heap[w.heap.size]? = some (.cells #[.int .i64 op, .string name, .slice a ts.length cap] 24 (0, 0))) := heap_alloc_new w _
  clear hb0
  generalize (w.alloc (.cells #[.int .i64 op, .string name, .slice a ts.length cap] 24)) = W at *
  go_loopw [3, 11] (fun _ i wr => ∃ k : Nat, k ≤ ts.length ∧ i = .int .i64 k ∧ Hid (allL shortB (ts.take k) = true) ∧ Hid (Below W.heap.size W wr)) (fun _ i _ => ts.length - (intOf i).toNat)
  case atStart => exact ⟨0, Nat.zero_le _, rfl, by simp [Hid, allL], Below.refl _ _⟩
  case round =>
    obtain ⟨k, hk, rfl, hall, hbel⟩ := hrel
    have HBw := hidIt (HB0.out.trans (hbel.out.mono HB0.out.size))
    have kX := blk_kept HX.out hbel.out
    obtain ⟨x0, x1, x2⟩ := cell_of3 kX
    have hlx := lt_of_block kX
    clear kX
    by_cases hlt : k < ts.length
    · obtain ⟨b', off', a', c', rfl, c0, c1, c2, hf⟩ := (HV.out.go HBw.out).at k hlt
      have HF := hidIt hf
      have HS := hidIt (allL_take shortB ts k hlt)
      have HL : Hid (ts[k].all shortB = false → allL shortB ts = false) := fun h => by
        cases hh : allL shortB ts
        · rfl
        · have := allL_mem hh _ (List.getElem_mem hlt); rw [h] at this; cases this
      have hm : ts[k] ∈ ts := List.getElem_mem hlt
      clear hf
      generalize ts[k] = t at *
      have HIH := hidIt (fun v w h => IH.out t hm v w h)
      obtain ⟨r, hr⟩ : ∃ r, t.all shortB = r := ⟨_, rfl⟩
      rw [hr] at HIH HS HL
      clear hr
      have hlt0 : (k : Int) < (ts.length : Int) := by omega
      have hk0 : (0 : Int) ≤ (k : Int) := by omega
      have K0 := fun y => Ext.cell c0 y
      have K1 := fun y => Ext.cell c1 y
      have K2 := fun y => Ext.cell c2 y
      have M1 := fun y => Ext.cell x2 y
      clear K0 K1 K2 M1
      cases r
      · go_wp2_with fail
        refine (HIH.out _ _ HF.out).mono ?_
        rintro e w5 ⟨rfl, h5⟩
        have HB5 : Hid (Below w.heap.size w w5) := HBw.out.trans (Below.mono h5 HBw.out.size)
        clear h5
        go_wp2_with fail
        go_ret
        exact ⟨ret_bool (by rw [HE.out, HL.out trivial]), HB5.out⟩
      · go_wp2_with fail
        refine (HIH.out _ _ HF.out).mono ?_
        rintro e w5 ⟨rfl, h5⟩
        have HB5 : Hid (Below W.heap.size W w5) := hbel.out.trans (Below.mono h5 hbel.out.size)
        clear h5
        go_wp2_with fail
        go_roundw
        case rel => exact ⟨k + 1, by omega, by go_num, by show _ = _; rw [HS.out, hall.out]; rfl, HB5.out⟩
        case measure => simp [intOf]; omega
    · go_wp2_with fail
      go_ret
      have hall' := hall.out
      rw [List.take_of_length_le (by omega)] at hall'
      exact ⟨ret_bool (by rw [HE.out, hall']), HBw.out⟩

set_option maxRecDepth 100000 in
set_option maxHeartbeats 1000000 in
theorem ksmall_any (t : Tree) (v : Value) (w : World) (h : FormAt w none v t) :
    Calls Tryz.prog 7 #[v] w fun e w' => e = .returned (.bool (decide (t.nodes ≤ 800) && decide (t.depth ≤ 30) && t.all shortB)) ∧ Below w.heap.size w w' := by
  obtain ⟨a, cap, b, off, rfl, hop, hname, hlen, hcap, -, -⟩ := h.form
  have HB0 : Hid (Below w.heap.size w (w.alloc (.cells #[.int .i64 t.op, .string t.name, .slice a t.args.length cap] 24))) := (Below.refl _ _).alloc (Nat.le_refl _) _
  have HK0 := hidIt (heap_alloc_new w (.cells #[.int .i64 t.op, .string t.name, .slice a t.args.length cap] 24))
  have H := hidIt (h.go HB0.out)
  have hN := hidIt (fun v w h => knodes_any t 800 v w h (by omega))
  have hL := hidIt (fun v w h => klevels_any t 31 30 v w h (by omega) (by omega))
  have hS := hidIt (kshort_any t)
  clear h
  obtain ⟨x, hx⟩ : ∃ x, x = min t.nodes (800 + 1) := ⟨_, rfl⟩
  obtain ⟨y, hy⟩ : ∃ y, y = min t.depth 31 := ⟨_, rfl⟩
  obtain ⟨z, hz⟩ : ∃ z, z = t.all shortB := ⟨_, rfl⟩
  rw [← hx] at hN
  rw [← hy] at hL
  rw [← hz] at hS
  by_cases h1 : t.nodes ≤ 800
  case neg =>
    have h1' : decide ((x : Int) ≤ 800) = false := by simp; omega
    have HE : Hid ((decide (t.nodes ≤ 800) && decide (t.depth ≤ 30) && t.all shortB) = false) := by show _ = _; rw [decide_eq_false h1]; simp
    clear hx hy hz h1
    go_enter Tryz.func7, Tryz.ntmps7
    go_wp2_with fail
    refine (hN.out _ _ H.out).mono ?_
    rintro e w1 ⟨rfl, hb⟩
    have HB1 := hidIt (HB0.out.trans (Below.mono hb HB0.out.size))
    clear hb
    go_wp2_with fail
    go_ret
    exact ⟨ret_bool HE.out.symm, HB1.out⟩
  case pos =>
  have h1' : (x : Int) ≤ 800 := by omega
  by_cases h2 : t.depth ≤ 30
  case neg =>
    have h2' : decide ((y : Int) ≤ 30) = false := by simp; omega
    have HE : Hid ((decide (t.nodes ≤ 800) && decide (t.depth ≤ 30) && t.all shortB) = false) := by show _ = _; rw [decide_eq_false h2]; simp
    clear hx hy hz h2 h1
    go_enter Tryz.func7, Tryz.ntmps7
    go_wp2_with fail
    refine (hN.out _ _ H.out).mono ?_
    rintro e w1 ⟨rfl, hb⟩
    have HB1 := hidIt (HB0.out.trans (Below.mono hb HB0.out.size))
    have HK1 := hidIt (blk_kept HK0.out hb)
    have H1 := hidIt (H.out.go hb)
    clear hb
    obtain ⟨c0, c1, c2⟩ := cell_of3 HK1.out
    have cl := lt_of_block HK1.out
    go_wp2_with fail
    refine (hL.out _ _ H1.out).mono ?_
    rintro e w2 ⟨rfl, hb⟩
    have HB2 := hidIt (HB1.out.trans (Below.mono hb HB1.out.size))
    clear hb c0 c1 c2 cl
    go_wp2_with fail
    go_ret
    exact ⟨ret_bool HE.out.symm, HB2.out⟩
  case pos =>
  have h2' : (y : Int) ≤ 30 := by omega
  have HE : Hid ((decide (t.nodes ≤ 800) && decide (t.depth ≤ 30) && t.all shortB) = z) := by show _ = _; rw [decide_eq_true h1, decide_eq_true h2, hz]; simp
  clear hx hy hz h2 h1
  go_enter Tryz.func7, Tryz.ntmps7
  go_wp2_with fail
  refine (hN.out _ _ H.out).mono ?_
  rintro e w1 ⟨rfl, hb⟩
  have HB1 := hidIt (HB0.out.trans (Below.mono hb HB0.out.size))
  have HK1 := hidIt (blk_kept HK0.out hb)
  have H1 := hidIt (H.out.go hb)
  clear hb
  obtain ⟨c0, c1, c2⟩ := cell_of3 HK1.out
  have cl := lt_of_block HK1.out
  go_wp2_with fail
  refine (hL.out _ _ H1.out).mono ?_
  rintro e w2 ⟨rfl, hb⟩
  have HB2 := hidIt (HB1.out.trans (Below.mono hb HB1.out.size))
  have HK2 := hidIt (blk_kept HK1.out hb)
  have H2 := hidIt (H1.out.go hb)
  clear hb c0 c1 c2 cl
  obtain ⟨c0, c1, c2⟩ := cell_of3 HK2.out
  have cl := lt_of_block HK2.out
  go_wp2_with fail
  refine (hS.out _ _ H2.out).mono ?_
  rintro e w3 ⟨rfl, hb⟩
  have HB3 := hidIt (HB2.out.trans (Below.mono hb HB2.out.size))
  clear hb c0 c1 c2 cl
  go_wp2_with fail
  go_ret
  exact ⟨ret_bool HE.out.symm, HB3.out⟩
end Go.Proofs.YtilkpjcbmllgmaaGreatDoor

namespace Go.Proofs.YtilkpjcbmllgmaaGreatDoor
set_option linter.unusedVariables false
set_option linter.unusedSimpArgs false
open Go Go.RowKit

set_option maxRecDepth 100000 in
set_option maxHeartbeats 8000000 in
theorem mods_walk (v1 : Value) (l1 : List ByteArray) (v0 : Value) (t0 : Tree) (v : Value) (zs : List Int) (w : World) (h1 : StrsArg w v1 l1) (h0 : FormAt w none v0 t0) (hz : IntsAt w w.heap.size v zs) (hsg : SignsAt w) :
    Calls Tryz.prog 5 #[v1, v0, v] w fun e w' => e = .returned (.bool true) ∧ Below w.heap.size w w' := by
  obtain ⟨a1, c1, rfl, hl1, hc1, hs1⟩ := h1
  obtain ⟨a0, cap0, -, -, rfl, hop, hname, hlen, hcap, -, -⟩ := h0.form
  have hgr : Below w.heap.size w (w.alloc (.cells #[.int .i64 t0.op, .string t0.name, .slice a0 t0.args.length cap0] 24)) := Grows.alloc _ _
  have HSG := hidIt hsg
  have HF0 := hidIt (FormAt.go h0 hgr)
  have HK0 := hidIt (heap_alloc_new w (.cells #[.int .i64 t0.op, .string t0.name, .slice a0 t0.args.length cap0] 24))
  have HZ0 : Hid (IntsAt (w.alloc (.cells #[.int .i64 t0.op, .string t0.name, .slice a0 t0.args.length cap0] 24)) w.heap.size v zs) := hz.kept (only_of_below hgr none) (fun g e => by cases e)
  have HR0 : Hid (StrsIn (w.alloc (.cells #[.int .i64 t0.op, .string t0.name, .slice a0 t0.args.length cap0] 24)) (fun i => i < w.heap.size) a1 l1) := (hs1.mono (S' := fun i => i < w.heap.size) fun i hi _ => hi).go hgr
  have HB0 := hidIt hgr
  have hlm : l1.length ≤ maxLen := Nat.le_trans hl1 hc1
  have HSH := hidIt (short3_any l1 a1 c1 hlm _ HR0.out)
  have HC1 := hidIt hc1
  have HL1 := hidIt hl1
  clear hsg h0 hz hgr hop hname hlen hcap hs1 hlm
  unfold maxLen at hc1
  by_cases hsv : shortV l1 = true
  case neg =>
    have hsv' : shortV l1 = false := by simpa using hsv
    rw [hsv'] at HSH
    clear hsv hsv'
    go_enter Tryz.func5, Tryz.ntmps5
    go_wp2_with fail
    refine HSH.out.mono ?_
    rintro e w' ⟨rfl, rfl⟩
    go_wp2_with fail
    go_ret
    exact ⟨rfl, HB0.out⟩
  case pos =>
  have h12 : l1.length ≤ 12 := by
    unfold shortV at hsv
    rw [Bool.and_eq_true, decide_eq_true_eq] at hsv
    exact hsv.2
  rw [hsv] at HSH
  clear hsv
  go_enter Tryz.func5, Tryz.ntmps5
  go_wp2_with fail
  refine HSH.out.mono ?_
  rintro e w' ⟨rfl, rfl⟩
  clear HSH
  go_wp2_with fail
  generalize hWa : (w.alloc (.cells #[.int .i64 t0.op, .string t0.name, .slice a0 t0.args.length cap0] 24)) = w0 at *
  clear hWa
  refine (ksmall_any t0 _ _ HF0.out).mono ?_
  rintro e w1 ⟨rfl, hb1⟩
  have HF1 := hidIt (HF0.out.go hb1)
  have HK1 := hidIt (blk_kept HK0.out hb1)
  have HZ1 := hidIt (HZ0.out.kept (only_of_below hb1 none) (fun g e => by cases e))
  have HR1 := hidIt (HR0.out.go hb1)
  have HB1 := hidIt (HB0.out.trans (Below.mono hb1 HB0.out.size))
  clear hb1 HF0 HK0 HZ0 HB0 HR0
  by_cases hs : (decide (t0.nodes ≤ 800) && decide (t0.depth ≤ 30) && t0.all shortB) = true
  case neg =>
    have hs' : (decide (t0.nodes ≤ 800) && decide (t0.depth ≤ 30) && t0.all shortB) = false := by simpa using hs
    rw [hs']
    clear hs hs'
    go_wp2_with fail
    go_ret
    exact ⟨rfl, HB1.out⟩
  case pos =>
  have HN0 : Hid (t0.nodes ≤ 800) := by
    rw [Bool.and_eq_true, Bool.and_eq_true, decide_eq_true_eq] at hs
    exact hs.1.1
  rw [hs]
  clear hs
  obtain ⟨p0, p1, p2⟩ := cell_of3 HK1.out
  have hpl1 := lt_of_block HK1.out
  go_wp2_with fail
  refine (knodes_any t0 100 _ _ HF1.out (by omega)).mono ?_
  rintro e w2 ⟨rfl, hb2⟩
  have HF2 := hidIt (HF1.out.go hb2)
  have HK2 := hidIt (blk_kept HK1.out hb2)
  have HZ2 := hidIt (HZ1.out.kept (only_of_below hb2 none) (fun g e => by cases e))
  have HR2 := hidIt (HR1.out.go hb2)
  have HB2 := hidIt (HB1.out.trans (Below.mono hb2 HB1.out.size))
  clear hb2 HF1 HK1 HZ1 HB1 HR1 p0 p1 p2 hpl1
  generalize min t0.nodes (100 + 1) = mn at *
  by_cases hmn : (100 : Int) < (mn : Int)
  case pos =>
    go_wp2_with fail
    go_ret
    exact ⟨rfl, HB2.out⟩
  case neg =>
  have hpl2 := lt_of_block HK2.out
  go_wp2_with fail
  refine (new_any v zs w.heap.size w2 HZ2.out HB2.out.size).mono ?_
  rintro e w3 ⟨zs1, rfl, hs3, o3, hw3⟩
  have HS3 := hidIt hs3
  have hb3 : Below w2.heap.size w2 w3 := by rw [hw3]; exact Grows.alloc _ _
  have HK3 := hidIt (blk_kept HK2.out hb3)
  have HB3 := hidIt (HB2.out.trans (Below.mono hb3 HB2.out.size))
  have HFB3 : Hid (FormIn w3 (fun i => i ≠ w2.heap.size) (.agg #[.int .i64 t0.op, .string t0.name, .slice a0 t0.args.length cap0]) t0) :=
    FormIn.go (FormIn.mono HF2.out fun i hi _ => by omega) hb3
  have HV3 : Hid (VocCell w3 w2.heap.size (.slice a1 l1.length c1)) := ⟨l1, a1, c1, rfl, h12, HL1.out, HC1.out, (HR2.out.go hb3).mono fun i _ hi => by have := HB2.out.size; omega⟩
  have hbl := hs3.lt
  have hbw : w.heap.size ≠ w2.heap.size := by omega
  have hbw2 : w.heap.size ≤ w2.heap.size := by omega
  clear hs3 hw3 hb3 HF2 HK2 HZ2 HB2 HR2 hpl2 HL1 HC1
  generalize w2.heap.size = b at *
  go_wp2_with fail
  refine (sform_any 4 (by omega) (by omega) 3 (by omega) _ _ zs1 0 w3 HS3.out).mono ?_
  rintro e w4 ⟨f, fo, fs, fa, fm, fc, q4, rfl, hf1, hfd, hf3, hs4, hg4⟩
  have HNF : Hid (f.nodes ≤ 121) := Nat.le_trans (gen_nodes f 3 hf1 hfd) (by decide)
  have HMF := hidIt (nmLe_all (N := 12) hf1 (by omega))
  have HS4 := hidIt hs4
  have HK4 := hidIt ((hg4.block _ (lt_of_block HK3.out) (fun e => hbw (by injection e))).trans HK3.out)
  have HB4 := hidIt (only_trans (only_of_below HB3.out (some b)) hg4)
  have HFB4 := hidIt (HFB3.out.keptB hg4)
  have HV4 := hidIt (HV3.out.kept hg4)
  have HFF4 : Hid (FormIn w4 (fun i => i ≠ b) (.agg #[.int .i64 fo, .string fs, .slice fa fm fc]) f) := hf3.mono fun i _ hi => by omega
  have hbl4 := hs4.lt
  clear hf1 hfd hf3 hs4 hg4 HS3 HK3 HB3 HFB3 HV3 hbl
  go_wp2_with fail
  refine (sform_any 3 (by omega) (by omega) 3 (by omega) _ _ zs1 q4 w4 HS4.out).mono ?_
  rintro e w5 ⟨g, go, gs, ga, gm, gc, q5, rfl, hg1, hgd, hg3, hs5, hg5⟩
  have HNG : Hid (g.nodes ≤ 121) := Nat.le_trans (gen_nodes g 3 hg1 hgd) (by decide)
  have HS5 := hidIt hs5
  have HK5 := hidIt ((hg5.block _ (lt_of_block HK4.out) (fun e => hbw (by injection e))).trans HK4.out)
  have HB5 := hidIt (only_trans HB4.out hg5)
  have HFB5 := hidIt (HFB4.out.keptB hg5)
  have HFF5 := hidIt (HFF4.out.keptB hg5)
  have HV5 := hidIt (HV4.out.kept hg5)
  have HFG5 : Hid (FormIn w5 (fun i => i ≠ b) (.agg #[.int .i64 go, .string gs, .slice ga gm gc]) g) := hg3.mono fun i _ hi => by omega
  have hbl5 := hs5.lt
  clear hg1 hgd hg3 hs5 hg5 HS4 HK4 HB4 HFB4 HV4 HFF4 hbl4
  go_wp2_with fail
  have hgr : w5.grownBy ((w5.alloc (.cells #[.int .i64 fo, .string fs, .slice fa fm fc] 24)).alloc (.cells #[.int .i64 go, .string gs, .slice ga gm gc] 24)) (some b) := only_alloc (only_alloc (only_refl _ _) _) _
  have HS6 := hidIt ((HS5.out.alloc (.cells #[.int .i64 fo, .string fs, .slice fa fm fc] 24)).alloc (.cells #[.int .i64 go, .string gs, .slice ga gm gc] 24))
  have HK6 := hidIt ((hgr.block _ (lt_of_block HK5.out) (fun e => hbw (by injection e))).trans HK5.out)
  have HPF6 : Hid (((w5.alloc (.cells #[.int .i64 fo, .string fs, .slice fa fm fc] 24)).alloc (.cells #[.int .i64 go, .string gs, .slice ga gm gc] 24)).heap[w5.heap.size]? = some (.cells #[.int .i64 fo, .string fs, .slice fa fm fc] 24 (0, 0))) := blk_kept (heap_alloc_new w5 _) (Grows.alloc _ _)
  have HPG6 : Hid (((w5.alloc (.cells #[.int .i64 fo, .string fs, .slice fa fm fc] 24)).alloc (.cells #[.int .i64 go, .string gs, .slice ga gm gc] 24)).heap[w5.heap.size + 1]? = some (.cells #[.int .i64 go, .string gs, .slice ga gm gc] 24 (0, 0))) := heap_alloc_at (by simp)
  have HB6 := hidIt (only_trans HB5.out hgr)
  have HFB6 := hidIt (HFB5.out.keptB hgr)
  have HFF6 := hidIt (HFF5.out.keptB hgr)
  have HFG6 := hidIt (HFG5.out.keptB hgr)
  have HV6 := hidIt (HV5.out.kept hgr)
  have hpf : w5.heap.size ≠ b := by omega
  have hpg : w5.heap.size + 1 ≠ b := by omega
  clear hgr HS5 HK5 HB5 HFB5 HFF5 HFG5 HV5 hbl5
  generalize hWa : ((w5.alloc (.cells #[.int .i64 fo, .string fs, .slice fa fm fc] 24)).alloc (.cells #[.int .i64 go, .string gs, .slice ga gm gc] 24)) = w6 at *
  clear hWa
  generalize w5.heap.size + 1 = pg at *
  generalize w5.heap.size = pf at *
  have hbl6 := HS6.out.lt
  refine (voc_any 4 (by omega) w6).mono ?_
  rintro e w7 ⟨ua, uc, rfl, hulc, hucm, hus, hb7⟩
  have hg7 : w6.grownBy w7 (some b) := only_of_below hb7 _
  have HS7 := hidIt (HS6.out.grow (only_of_below hb7 none))
  have HK7 := hidIt (blk_kept HK6.out hb7)
  have HPF7 := hidIt (blk_kept HPF6.out hb7)
  have HPG7 := hidIt (blk_kept HPG6.out hb7)
  have HB7 := hidIt (only_trans HB6.out hg7)
  have HFB7 := hidIt (HFB6.out.keptB hg7)
  have HFF7 := hidIt (HFF6.out.keptB hg7)
  have HFG7 := hidIt (HFG6.out.keptB hg7)
  have HV7 := hidIt (HV6.out.kept hg7)
  have HU7 : Hid (VocCell w7 b (.slice ua 4 uc)) := ⟨vocL 4, ua, uc, by rw [vocL_len], by rw [vocL_len]; omega, by rw [vocL_len]; exact hulc, hucm, hus.apart fun i _ hi => by omega⟩
  have hbl7 := HS7.out.lt
  clear hus hb7 hg7 hulc hucm HS6 HK6 HPF6 HPG6 HB6 HFB6 HFF6 HFG6 HV6 hbl6
  go_wp2_with fail
  refine (sn_nat 7 (by omega) (by omega) _ _ zs1 _ _ HS7.out).mono ?_
  rintro e w8 ⟨n, q8, rfl, hn, hs8, hg8⟩
  have HS8 := hidIt hs8
  have HK8 := hidIt ((hg8.block _ (lt_of_block HK7.out) (fun e => hbw (by injection e))).trans HK7.out)
  have HPF8 := hidIt ((hg8.block _ (lt_of_block HPF7.out) (fun e => hpf (by injection e))).trans HPF7.out)
  have HPG8 := hidIt ((hg8.block _ (lt_of_block HPG7.out) (fun e => hpg (by injection e))).trans HPG7.out)
  have HB8 := hidIt (only_trans HB7.out hg8)
  have HFB8 := hidIt (HFB7.out.keptB hg8)
  have HFF8 := hidIt (HFF7.out.keptB hg8)
  have HFG8 := hidIt (HFG7.out.keptB hg8)
  have HV8 := hidIt (HV7.out.kept hg8)
  have HU8 := hidIt (HU7.out.kept hg8)
  have hbl8 := hs8.lt
  clear hs8 hg8 HS7 HK7 HPF7 HPG7 HB7 HFB7 HFF7 HFG7 HV7 HU7 hbl7
  go_wp2_with fail
  refine (voc_any n (by omega) w8).mono ?_
  rintro e w9 ⟨va, vc, rfl, hvlc, hvcm, hvs, hb9⟩
  have hg9 : w8.grownBy w9 (some b) := only_of_below hb9 _
  have HS9 := hidIt (HS8.out.grow (only_of_below hb9 none))
  have HK9 := hidIt (blk_kept HK8.out hb9)
  have HPF9 := hidIt (blk_kept HPF8.out hb9)
  have HPG9 := hidIt (blk_kept HPG8.out hb9)
  have HB9 := hidIt (only_trans HB8.out hg9)
  have HFB9 := hidIt (HFB8.out.keptB hg9)
  have HFF9 := hidIt (HFF8.out.keptB hg9)
  have HFG9 := hidIt (HFG8.out.keptB hg9)
  have HV9 := hidIt (HV8.out.kept hg9)
  have HU9 := hidIt (HU8.out.kept hg9)
  have HW9 : Hid (VocCell w9 b (.slice va n vc)) := ⟨vocL n, va, vc, by rw [vocL_len], by rw [vocL_len]; omega, by rw [vocL_len]; exact hvlc, hvcm, hvs.apart fun i _ hi => by omega⟩
  have hbl9 := HS9.out.lt
  clear hvs hb9 hg9 hvlc hvcm hn HS8 HK8 HPF8 HPG8 HB8 HFB8 HFF8 HFG8 HV8 HU8 hbl8
  go_wp2_with fail
  refine (odd3_any _ _ zs1 q8 _ HS9.out).mono ?_
  rintro e w10 ⟨ol, oa, oc, q10, rfl, hol, holc, hocm, hos, hs10, hg10⟩
  have hgr : w10.grownBy (w10.alloc (.cells #[.slice a1 l1.length c1, .slice ua 4 uc, .slice va n vc, .slice oa ol.length oc] 25)) (some b) := only_alloc (only_refl _ _) _
  have hg11 := only_trans hg10 hgr
  have HS11 := hidIt (hs10.alloc (.cells #[.slice a1 l1.length c1, .slice ua 4 uc, .slice va n vc, .slice oa ol.length oc] 25))
  have HK11 := hidIt ((hg11.block _ (lt_of_block HK9.out) (fun e => hbw (by injection e))).trans HK9.out)
  have HPF11 := hidIt ((hg11.block _ (lt_of_block HPF9.out) (fun e => hpf (by injection e))).trans HPF9.out)
  have HPG11 := hidIt ((hg11.block _ (lt_of_block HPG9.out) (fun e => hpg (by injection e))).trans HPG9.out)
  have HB11 := hidIt (only_trans HB9.out hg11)
  have HFB11 := hidIt (HFB9.out.keptB hg11)
  have HFF11 := hidIt (HFF9.out.keptB hg11)
  have HFG11 := hidIt (HFG9.out.keptB hg11)
  have HRW11 := hidIt (heap_alloc_new w10 (.cells #[.slice a1 l1.length c1, .slice ua 4 uc, .slice va n vc, .slice oa ol.length oc] 25))
  have HCS : Hid (∀ k, k < 4 → ∃ v, (w10.alloc (.cells #[.slice a1 l1.length c1, .slice ua 4 uc, .slice va n vc, .slice oa ol.length oc] 25)).cell? ⟨w10.heap.size, k, none⟩ = some v ∧ VocCell (w10.alloc (.cells #[.slice a1 l1.length c1, .slice ua 4 uc, .slice va n vc, .slice oa ol.length oc] 25)) b v) := fun k hk =>
    cells4 HRW11.out k hk (HV9.out.kept hg11) (HU9.out.kept hg11) (HW9.out.kept hg11) (VocCell.kept ⟨ol, oa, oc, rfl, by omega, holc, hocm, hos⟩ hgr)
  have hpne : w10.heap.size ≠ b := by have := hs10.lt; omega
  have hpl := lt_of_block HRW11.out
  have hbl11 := HS11.out.lt
  clear hos hs10 hg10 hgr hg11 hol holc hocm HS9 HK9 HPF9 HPG9 HB9 HFB9 HFF9 HFG9 HV9 HU9 HW9 hbl9
  go_wp2_with fail
  generalize hWa : (w10.alloc (.cells #[.slice a1 l1.length c1, .slice ua 4 uc, .slice va n vc, .slice oa ol.length oc] 25)) = w11 at *
  clear hWa
  generalize w10.heap.size = pl at *
  obtain ⟨K0, K1, K2⟩ := cell_of3 HK11.out
  obtain ⟨F0, F1, F2⟩ := cell_of3 HPF11.out
  obtain ⟨G0, G1, G2⟩ := cell_of3 HPG11.out
  have hkl := lt_of_block HK11.out
  have hfl := lt_of_block HPF11.out
  have hgl := lt_of_block HPG11.out
  go_loopw [54] (fun i wr => ∃ k q : Nat, k ≤ 4 ∧ i = .int .i64 k ∧ Hid (w11.grownBy wr (some b)) ∧ Hid (SrcAt wr w.heap.size b zs1 q)) (fun i _ => 4 - (intOf i).toNat)
  case atStart => exact ⟨0, q10, by omega, rfl, only_refl _ _, HS11.out⟩
  case round =>
    clear HS11
    obtain ⟨k, q, hk, rfl, hgr, hsrc⟩ := hrel
    have HGW := hidIt (only_trans HB11.out hgr.out)
    by_cases hlt : k < 4
    · obtain ⟨lv, c0', hvc⟩ := HCS.out k hlt
      have hb := hgr.out.block pl hpl (fun e => hpne (by injection e))
      have c0 := (World.cell?_of_block (a := ⟨pl, k, none⟩) hb).trans c0'
      obtain ⟨l, a, c, rfl, hl12, hlc, hcm, hls⟩ := hvc.kept hgr.out
      have HLS := hidIt hls
      have HCM := hidIt hcm
      have hlt0 : (k : Int) < 4 := by omega
      have hk0 : (0 : Int) ≤ (k : Int) := by omega
      have hcm' := hcm
      unfold maxLen at hcm
      clear c0' hb hls hvc
      have HSRC := hidIt hsrc.out
      have X0 : ∀ wx, (wr.grownBy wx (some b) ∧ ∃ q, SrcAt wx w.heap.size b zs1 q) → wx.cell? ⟨w.heap.size, 0, none⟩ = some (.int .i64 t0.op) := fun wx hC => (only_trans hgr.out hC.1).cell K0 (fun e => hbw (by injection e))
      have X1 : ∀ wx, (wr.grownBy wx (some b) ∧ ∃ q, SrcAt wx w.heap.size b zs1 q) → wx.cell? ⟨w.heap.size, 1, none⟩ = some (.string t0.name) := fun wx hC => (only_trans hgr.out hC.1).cell K1 (fun e => hbw (by injection e))
      have X2 : ∀ wx, (wr.grownBy wx (some b) ∧ ∃ q, SrcAt wx w.heap.size b zs1 q) → wx.cell? ⟨w.heap.size, 2, none⟩ = some (.slice a0 t0.args.length cap0) := fun wx hC => (only_trans hgr.out hC.1).cell K2 (fun e => hbw (by injection e))
      have Y0 : ∀ wx, (wr.grownBy wx (some b) ∧ ∃ q, SrcAt wx w.heap.size b zs1 q) → wx.cell? ⟨pf, 0, none⟩ = some (.int .i64 fo) := fun wx hC => (only_trans hgr.out hC.1).cell F0 (fun e => hpf (by injection e))
      have Y1 : ∀ wx, (wr.grownBy wx (some b) ∧ ∃ q, SrcAt wx w.heap.size b zs1 q) → wx.cell? ⟨pf, 1, none⟩ = some (.string fs) := fun wx hC => (only_trans hgr.out hC.1).cell F1 (fun e => hpf (by injection e))
      have Y2 : ∀ wx, (wr.grownBy wx (some b) ∧ ∃ q, SrcAt wx w.heap.size b zs1 q) → wx.cell? ⟨pf, 2, none⟩ = some (.slice fa fm fc) := fun wx hC => (only_trans hgr.out hC.1).cell F2 (fun e => hpf (by injection e))
      have hkw : w.heap.size < wr.heap.size := Nat.lt_of_lt_of_le hkl hgr.out.size
      have hfw : pf < wr.heap.size := Nat.lt_of_lt_of_le hfl hgr.out.size
      have hbw4 : b < wr.heap.size := Nat.lt_of_lt_of_le hbl11 hgr.out.size
      have HFBw := hidIt (HFB11.out.keptB hgr.out)
      have HFFw := hidIt (HFF11.out.keptB hgr.out)
      have HLSw := hidIt (fun wx (hg : wr.grownBy wx (some b)) => HLS.out.kept fun i hi hl => hg.block i hl (fun e => hi (by injection e)))
      clear K0 K1 K2 F0 F1 F2
      go_wp2_with fail
      clear c0
      haveI : Nonempty (In (Ext wr)) := Ext.nonempty wr
      refine wp_region_rel (fun wx => wr.grownBy wx (some b) ∧ ∃ q, SrcAt wx w.heap.size b zs1 q) (fun x y => x.grownBy y (some b)) (relTab [(62, isF b 141 13), (63, isRowFn 3 b)]) (by kernel_rfl) (by kernel_rfl) (by kernel_rfl) (fun s r hs v x y hx hy hg hr => ?_) ⟨only_of_below (Below.refl _ _).drew _, _, HSRC.out.grow (only_of_below (Below.refl _ _).drew none)⟩ ?_
      · unfold relTab at hs
        split at hs
        · injection hs with hs
          subst hs
          exact isF_kept hg hr
        unfold relTab at hs
        split at hs
        · injection hs with hs
          subst hs
          exact isRowFn_kept hg hr
        · cases hs
      repeat (
        refine' walkR_plain (by kernel_rfl) rfl rfl (fun wx hC hL => ?_) ?_
        rotate_left
        · (have hlw := Nat.lt_of_lt_of_le hkw hC.1.size
           have hlg := Nat.lt_of_lt_of_le hfw hC.1.size
           simp only [X0 wx hC, X1 wx hC, X2 wx hC, Y0 wx hC, Y1 wx hC, Y2 wx hC, hlw, hlg, go_sem]; first | done | (go_simp; exact ⟨rfl, rfl⟩))
        simp only [Act.put, List.setIfInBounds_toArray, List.set_cons_zero, List.set_cons_succ])
      refine walkR_rel (by kernel_rfl) rfl rfl (of_decide_eq_true (by kernel_rfl)) (fun wx hC hL => ?_) (fun v hv => ?_)
      · go_simp
        exact spoilt_rel (by omega) (by omega) (by omega) hC (M := 121) (N := 12) ⟨f, _, _, _, _, _, rfl, HNF.out, HMF.out, HFFw.out.keptB hC.1⟩
      obtain ⟨_, _, T62, o62, s62, a62, m62, c62, rfl, -⟩ := hv
      simp only [Act.put, List.setIfInBounds_toArray, List.set_cons_zero, List.set_cons_succ]
      refine walkR_rel (by kernel_rfl) rfl rfl (of_decide_eq_true (by kernel_rfl)) (fun wx hC hL => ?_) (fun v hv => ?_)
      · obtain ⟨U2, _, _, _, _, _, e2, n2, -, f2⟩ : isF b 141 13 (.agg #[.int .i64 o62, .string s62, .slice a62 m62 c62]) wx := hL.get 62 (by simp [more]) (by kernel_rfl) rfl rfl
        simp at e2
        obtain ⟨rfl, rfl, rfl, rfl, rfl⟩ := e2
        have h0 := HN0.out
        have h1 := HNF.out
        have hr := row_three (by omega) (by omega) (by omega) (HFBw.out.keptB hC.1) (HFFw.out.keptB hC.1) f2 (Nat.lt_of_lt_of_le hbw4 hC.1.size)
        go_simp
        exact ⟨⟨only_alloc hC.1 _, hC.2.imp fun _ h => h.alloc _⟩, only_alloc (only_refl _ _) _, hr⟩
      obtain ⟨_, _, gb, rfl, hgb, -, -⟩ := hv
      simp only [Act.put, List.setIfInBounds_toArray, List.set_cons_zero, List.set_cons_succ]
      repeat (
        refine' walkR_plain (by kernel_rfl) rfl rfl (fun wx hC hL => ?_) ?_
        rotate_left
        · (have hlw := Nat.lt_of_lt_of_le hkw hC.1.size
           have hlg := Nat.lt_of_lt_of_le hfw hC.1.size
           simp only [X0 wx hC, X1 wx hC, X2 wx hC, Y0 wx hC, Y1 wx hC, Y2 wx hC, hlw, hlg, go_sem]; first | done | (go_simp; exact ⟨rfl, rfl⟩))
        simp only [Act.put, List.setIfInBounds_toArray, List.set_cons_zero, List.set_cons_succ])
      refine fun w12 hC12 hK => ?_
      have h63 : isRowFn 3 b (.slice (some ⟨gb, 0, none⟩) 3 3) w12 := hK 63 (by simp [more]) _ rfl
      obtain ⟨g', e, -, hg12, hrow⟩ := h63
      injection e with e
      injection e with e
      injection e with e
      subst e
      have HRWS := hidIt hrow
      have HGR12 := hidIt (only_trans hgr.out hC12.1)
      obtain ⟨q12, hs12⟩ := hC12.2
      have HS12 := hidIt hs12
      have HLS12 := hidIt (HLSw.out w12 hC12.1)
      have HFG12 := hidIt (HFG11.out.keptB HGR12.out)
      have HPG12 := hidIt ((HGR12.out.block _ (lt_of_block HPG11.out) (fun e => hpg (by injection e))).trans HPG11.out)
      clear hK hC12 hrow hs12 X0 X1 X2 Y0 Y1 Y2 HFBw HFFw HLSw hkw hfw hbw4 HLS hgr hsrc HSRC
      go_wp2_with fail
      have hvn : l.length ≤ 1000000 := by omega
      have HLS12' := hidIt (HLS12.out.mono (S' := fun _ => True) fun _ _ _ => trivial)
      clear HLS12
      go_loopw [65] (fun i wq => ∃ j : Nat, j ≤ 3 ∧ i = .int .i64 j ∧ Hid (Below w12.heap.size w12 wq)) (fun i _ => 3 - (intOf i).toNat)
      case atStart => exact ⟨0, by omega, rfl, Below.refl _ _⟩
      case round =>
        obtain ⟨j, hj, rfl, hbq⟩ := hrel
        by_cases hjt : j < 3
        · obtain ⟨T, o, s, ta, tm, tc, c0', c1', c2', hTn, hf⟩ := HRWS.out j hjt
          have c0 := (hbq.out.cell (p := ⟨gb, j * 3, none⟩) hg12).trans c0'
          have c1 := (hbq.out.cell (p := ⟨gb, j * 3 + 1, none⟩) hg12).trans c1'
          have c2 := (hbq.out.cell (p := ⟨gb, j * 3 + 2, none⟩) hg12).trans c2'
          have hjt0 : (j : Int) < 3 := by omega
          have hj0 : (0 : Int) ≤ (j : Int) := by omega
          have hgr : Below wr.heap.size wr (wr.alloc (.cells #[.int .i64 o, .string s, .slice ta tm tc] 24)) := Grows.alloc _ _
          have HF13 := hidIt ((hf.free.go hbq.out).go hgr)
          have HG13 := hidIt ((HFG12.out.free.go hbq.out).go hgr)
          have HL13 := hidIt ((HLS12'.out.go hbq.out).go hgr)
          have HQ13 := hidIt (heap_alloc_new wr (.cells #[.int .i64 o, .string s, .slice ta tm tc] 24))
          have HP13 := hidIt (blk_kept (blk_kept HPG12.out hbq.out) hgr)
          have HB13 := hidIt (hbq.out.trans (Below.mono hgr hbq.out.size))
          have HTN : T.nodes ≤ 1000000 := by omega
          have HGN : g.nodes ≤ 1000000 := by have := HNG.out; omega
          clear c0' c1' c2' hf hgr
          go_wp2_with fail
          clear c0 c1 c2
          generalize hWa : (wr.alloc (.cells #[.int .i64 o, .string s, .slice ta tm tc] 24)) = w13 at *
          clear hWa
          generalize wr.heap.size = pq at *
          obtain ⟨f0, f1, f2⟩ := cell_of3 HQ13.out
          have fl := lt_of_block HQ13.out
          obtain ⟨g0, g1, g2⟩ := cell_of3 HP13.out
          have gl := lt_of_block HP13.out
          refine (wModels_any l a c hvn T _ _ HF13.out HL13.out).mono ?_
          rintro e w14 ⟨rfl, hb⟩
          have HF14 := hidIt (HF13.out.go hb)
          have HG14 := hidIt (HG13.out.go hb)
          have HL14 := hidIt (HL13.out.go hb)
          have HQ14 := hidIt (blk_kept HQ13.out hb)
          have HP14 := hidIt (blk_kept HP13.out hb)
          have HB14 := hidIt (HB13.out.trans (Below.mono hb HB13.out.size))
          clear hb HF13 HG13 HL13 HQ13 HP13 HB13 f0 f1 f2 fl g0 g1 g2 gl
          obtain ⟨f0, f1, f2⟩ := cell_of3 HQ14.out
          have fl := lt_of_block HQ14.out
          obtain ⟨g0, g1, g2⟩ := cell_of3 HP14.out
          have gl := lt_of_block HP14.out
          go_wp2_with fail
          refine (r3models_any l a c hvn hlc hcm' T HTN _ _ HF14.out HL14.out).mono ?_
          rintro e w15 ⟨rfl, hb⟩
          have HF15 := hidIt (HF14.out.go hb)
          have HG15 := hidIt (HG14.out.go hb)
          have HL15 := hidIt (HL14.out.go hb)
          have HQ15 := hidIt (blk_kept HQ14.out hb)
          have HP15 := hidIt (blk_kept HP14.out hb)
          have HB15 := hidIt (HB14.out.trans (Below.mono hb HB14.out.size))
          clear hb HF14 HG14 HL14 HQ14 HP14 HB14 f0 f1 f2 fl g0 g1 g2 gl
          obtain ⟨f0, f1, f2⟩ := cell_of3 HQ15.out
          have fl := lt_of_block HQ15.out
          obtain ⟨g0, g1, g2⟩ := cell_of3 HP15.out
          have gl := lt_of_block HP15.out
          go_wp2_with fail
          refine (entails_any l a c hvn T g _ _ _ HF15.out HG15.out HL15.out).mono ?_
          rintro e w16 ⟨rfl, hb⟩
          have HF16 := hidIt (HF15.out.go hb)
          have HG16 := hidIt (HG15.out.go hb)
          have HL16 := hidIt (HL15.out.go hb)
          have HQ16 := hidIt (blk_kept HQ15.out hb)
          have HP16 := hidIt (blk_kept HP15.out hb)
          have HB16 := hidIt (HB15.out.trans (Below.mono hb HB15.out.size))
          clear hb HF15 HG15 HL15 HQ15 HP15 HB15 f0 f1 f2 fl g0 g1 g2 gl
          obtain ⟨f0, f1, f2⟩ := cell_of3 HQ16.out
          have fl := lt_of_block HQ16.out
          obtain ⟨g0, g1, g2⟩ := cell_of3 HP16.out
          have gl := lt_of_block HP16.out
          go_wp2_with fail
          refine (r3entails_any l a c hvn hlc hcm' T g HTN HGN _ _ _ HF16.out HG16.out HL16.out).mono ?_
          rintro e w17 ⟨rfl, hb⟩
          have HF17 := hidIt (HF16.out.go hb)
          have HG17 := hidIt (HG16.out.go hb)
          have HL17 := hidIt (HL16.out.go hb)
          have HQ17 := hidIt (blk_kept HQ16.out hb)
          have HP17 := hidIt (blk_kept HP16.out hb)
          have HB17 := hidIt (HB16.out.trans (Below.mono hb HB16.out.size))
          clear hb HF16 HG16 HL16 HQ16 HP16 HB16 f0 f1 f2 fl g0 g1 g2 gl
          obtain ⟨f0, f1, f2⟩ := cell_of3 HQ17.out
          have fl := lt_of_block HQ17.out
          obtain ⟨g0, g1, g2⟩ := cell_of3 HP17.out
          have gl := lt_of_block HP17.out
          go_wp2_with fail
          refine (entails_any l a c hvn g T _ _ _ HG17.out HF17.out HL17.out).mono ?_
          rintro e w18 ⟨rfl, hb⟩
          have HF18 := hidIt (HF17.out.go hb)
          have HG18 := hidIt (HG17.out.go hb)
          have HL18 := hidIt (HL17.out.go hb)
          have HQ18 := hidIt (blk_kept HQ17.out hb)
          have HP18 := hidIt (blk_kept HP17.out hb)
          have HB18 := hidIt (HB17.out.trans (Below.mono hb HB17.out.size))
          clear hb HF17 HG17 HL17 HQ17 HP17 HB17 f0 f1 f2 fl g0 g1 g2 gl
          obtain ⟨f0, f1, f2⟩ := cell_of3 HQ18.out
          have fl := lt_of_block HQ18.out
          obtain ⟨g0, g1, g2⟩ := cell_of3 HP18.out
          have gl := lt_of_block HP18.out
          go_wp2_with fail
          refine (r3entails_any l a c hvn hlc hcm' g T HGN HTN _ _ _ HG18.out HF18.out HL18.out).mono ?_
          rintro e w19 ⟨rfl, hb⟩
          have HF19 := hidIt (HF18.out.go hb)
          have HG19 := hidIt (HG18.out.go hb)
          have HL19 := hidIt (HL18.out.go hb)
          have HQ19 := hidIt (blk_kept HQ18.out hb)
          have HP19 := hidIt (blk_kept HP18.out hb)
          have HB19 := hidIt (HB18.out.trans (Below.mono hb HB18.out.size))
          clear hb HF18 HG18 HL18 HQ18 HP18 HB18 f0 f1 f2 fl g0 g1 g2 gl
          obtain ⟨f0, f1, f2⟩ := cell_of3 HQ19.out
          have fl := lt_of_block HQ19.out
          obtain ⟨g0, g1, g2⟩ := cell_of3 HP19.out
          have gl := lt_of_block HP19.out
          generalize modS l T = A at *
          generalize modE l T = E1 at *
          generalize entB l T g = b1 at *
          generalize entE l T g = E2 at *
          generalize entB l g T = b2 at *
          generalize entE l g T = E3 at *
          go_wp2_with fail
          go_roundw
          case rel => exact ⟨j + 1, by omega, by go_num, HB19.out⟩
          case measure => simp [intOf]; omega
        · obtain rfl : j = 3 := by omega
          have HGE := hidIt (only_trans HGR12.out (only_of_below hbq.out (some b)))
          have HSE := hidIt (HS12.out.grow (only_of_below hbq.out none))
          go_wp2_with fail
          go_roundw
          case rel => exact ⟨k + 1, q12, by omega, by go_num, HGE.out, HSE.out⟩
          case measure => simp [intOf]; omega
    · obtain rfl : k = 4 := by omega
      have HSGW : Hid (SignsAt wr) := HSG.out.go (below_of_only HGW.out hbw2)
      go_wp2_with fail
      refine (awake3_any _ HSGW.out).mono ?_
      rintro e w9 ⟨rfl, hb⟩
      have HG9 := hidIt (only_trans HGW.out (only_of_below hb _))
      clear hb
      go_wp2_with fail
      go_ret
      exact ⟨rfl, below_of_only HG9.out hbw2⟩
end Go.Proofs.YtilkpjcbmllgmaaGreatDoor

namespace Go.Proofs.YtilkpjcbmllgmaaGreatDoor
set_option linter.unusedVariables false
set_option linter.unusedSimpArgs false
open Go.ChangeShapes Go.WideShapes Go.ChangeAt Go.RowKit

theorem ownKn' : ownKnob Tryz.prog.godebug = none := by kernel_rfl
theorem laidOutF' : laidOutB Tryz.prog = true := by kernel_rfl
theorem gSigns : Tryz.prog.globalNamed "deliberation/formula.signs" = some 0 := by kernel_rfl
theorem gSignsType : (Tryz.prog.globals[0]?).map (·.type) = some 133 := by kernel_rfl
theorem cellsArr : Tryz.prog.cellsOf 133 = 7 := by kernel_rfl
theorem cellsStr : Tryz.prog.cellsOf 9 = 1 := by kernel_rfl

/-- An array of strings that reads as these holds these. -/
theorem cells_of_texts {H : Type} {enc : TypeId × Value → H} {P : Program} {w : World} {base : Nat} {sp : Nat → Bool} {held : Bool} {fuel : Nat} {t e : TypeId} {n : Nat} {cs : List Value} {zs : List (List UInt8)} {p : List MemPlace}
    (ht : P.underlying t = some (.array n e)) (he : P.underlying e = some .string) (hce : P.cellsOf e = 1) (hct : P.cellsOf t = n)
    (h : DataW.trod enc P w base sp held fuel t cs = some (.agg (zs.map fun z => .lit (.string z)), p)) : cs = zs.map fun z => Value.string ⟨z.toArray⟩ := by
  obtain ⟨xs, m, rfl, hx, hl, hn, hel⟩ := DataW.trod_array ht h
  have hxs : xs.map (·.1) = zs.map fun z => (DataW.lit (.string z) : DataW H) := by
    have := congrArg Prod.fst hx
    simpa using this.symm
  have hzl : zs.length = n := by
    have := congrArg List.length hxs
    simp at this
    omega
  apply List.ext_getElem?
  intro i
  by_cases hi : i < n
  · have hx2 : i < xs.length := by omega
    have hf := hel i hi
    rw [List.getElem?_eq_getElem hx2, hce, Nat.mul_one] at hf
    obtain ⟨s, hc, hsx, -⟩ := DataW.trod_string he hf
    have h1 : cs[i]? = some (.string s) := by
      have := congrArg (·[0]?) hc
      simpa [List.getElem?_take, List.getElem?_drop] using this
    have h2 : (xs.map (·.1))[i]? = some (DataW.lit (.string s.data.toList) : DataW H) := by
      rw [List.getElem?_map, List.getElem?_eq_getElem hx2, hsx]
      rfl
    rw [hxs] at h2
    simp only [List.getElem?_map, Option.map_eq_some_iff, DataW.lit.injEq, Lit.string.injEq] at h2
    obtain ⟨z', hz', e2⟩ := h2
    rw [h1, List.getElem?_map, hz', e2]
    rfl
  · rw [List.getElem?_eq_none (by omega), List.getElem?_eq_none (by simp; omega)]

/-- What the row's list gives. -/
theorem signs_of_laid {W : World} (h : laidMetH Tryz.prog [("deliberation/formula.signs", Rows.laid_deliberation_formula_signs)] W) : SignsAt W := by
  obtain ⟨ps, ⟨g', t', cs, fuel, p, q, hg', ht', hvar, hd, _, _⟩, _⟩ := h
  obtain rfl := Option.some.inj (gSigns.symm.trans hg')
  obtain rfl := Option.some.inj (gSignsType.symm.trans ht')
  have hc := cells_of_texts (zs := sgn) Tryz.underlying133 Tryz.underlying9 cellsStr cellsArr hd
  have hcs : cs = #[.string ⟨#[60, 45, 62]⟩, .string ⟨#[45, 62]⟩, .string ⟨#[126]⟩, .string ⟨#[38]⟩, .string ⟨#[124]⟩, .string ⟨#[40]⟩, .string ⟨#[41]⟩] := by
    apply Array.ext'
    rw [hc]
    rfl
  subst hcs
  have hcell := World.var?_cell gSigns hvar
  have h0 : W.cell? ⟨0, 0, none⟩ = some (.string ⟨#[60, 45, 62]⟩) := hcell 0
  exact ⟨World.block_lt_of_cell? W ⟨0, 0, none⟩ h0, h0, hcell 1, hcell 2, hcell 3, hcell 4, hcell 5, hcell 6⟩

/-- A world for the witness: the settled one, the table holding what its initialiser lays. -/
noncomputable def laidWorld (os : Os) : World :=
  { World.holding Tryz.prog os ⟨#[], #[], []⟩ with heap := (World.holding Tryz.prog os ⟨#[], #[], []⟩).heap.modify 0 fun
      | .cells _ t frozen => .cells #[.string ⟨#[60, 45, 62]⟩, .string ⟨#[45, 62]⟩, .string ⟨#[126]⟩, .string ⟨#[38]⟩, .string ⟨#[124]⟩, .string ⟨#[40]⟩, .string ⟨#[41]⟩] t frozen
      | o => o }
end Go.Proofs.YtilkpjcbmllgmaaGreatDoor
