/- keep.SpoiltFormula: what it leaves. Formulas outside the reader's block, as values that a drawn region makes; rows of them. keep.Nodes, Levels, short and SmallFormula, at formulas of any size. Lists of strings wherever they lie; one more in an ascending list; append of a list that lies somewhere to a row that the call owns. The reference's insert: one more in an ascending list of strings. The reference's collect and Atoms. The reference's Size, Depth, kinds and names. The reference's value of a formula whose kinds fit: valueB, for a list of names that are true. The reference's Copy: a formula that is made of the call's own cells. The reference's Substitute: what it makes lies in the call's own cells (a leaf has none). -/
import Derived.Laws.OwnMore
import Derived.Deep.AppendLies
import Derived.Deep.RegionLaw
import Derived.Test.YtilkpjcbmllgmaaGreatDoorPvA
import Derived.Test.YtilkpjcbmllgmaaGreatDoorPvB
import Derived.Test.YtilkpjcbmllgmaaGreatDoorPvC
import Derived.Test.YtilkpjcbmllgmaaGreatDoorPvD
import Derived.Test.YtilkpjcbmllgmaaGreatDoorPvE

namespace Go.Proofs.YtilkpjcbmllgmaaGreatDoor
set_option linter.unusedVariables false
set_option linter.unusedSimpArgs false
open Go Go.RowKit

def nmLe (N : Nat) (t : Tree) : Bool := decide (t.name.size ≤ N)

/-- What the spoiler leaves: a formula with few nodes more, names one byte longer at most. -/
def SpPost (N : Nat) (S : Nat → Prop) (t : Tree) (w : World) (B b : Nat) (zs : List Int) (e : Ending) (w' : World) : Prop :=
  ∃ (T : Tree) (o : Int) (s : ByteArray) (a : Option Addr) (m c q : Nat), e = .returned (.agg #[.int .i64 o, .string s, .slice a m c]) ∧ T.nodes ≤ t.nodes + 20 ∧ T.all (nmLe (N + 1)) = true ∧
    FormIn w' (fun i => S i ∨ w.heap.size ≤ i) (.agg #[.int .i64 o, .string s, .slice a m c]) T ∧ SrcAt w' B b zs q ∧ w.grownBy w' (some b)

theorem nmLe_up {N M : Nat} (h : N ≤ M) {t : Tree} (ht : t.all (nmLe N) = true) : t.all (nmLe M) = true :=
  all_imp (fun t h1 => by unfold nmLe at *; simp only [decide_eq_true_eq] at *; omega) t ht
theorem nmLe_node {N : Nat} {op : Int} {s : ByteArray} {ts : List Tree} (h1 : s.size ≤ N) (h2 : ∀ t ∈ ts, t.all (nmLe N) = true) : (Tree.node op s ts).all (nmLe N) = true := by
  have key : ∀ l : List Tree, (∀ t ∈ l, t.all (nmLe N) = true) → allL (nmLe N) l = true := by
    intro l
    induction l with
    | nil => exact fun _ => rfl
    | cons t l ih => intro hl; simp only [allL, hl t (by simp), ih fun t ht => hl t (by simp [ht]), Bool.and_self]
  simp only [Tree.all, key ts h2, Bool.and_true]
  exact decide_eq_true (show s.size ≤ N from h1)

/-- The end: the formula lies in its box; it is carried to the result's box and handed back. -/
structure SpE (N : Nat) (S : Nat → Prop) (t : Tree) (w : World) (B b p4 p5 : Nat) (zs : List Int) (op : Int) (s : ByteArray) (a : Option Addr) (c : Nat) (ts : List Tree) (W : World) : Prop where
  hb : b < w.heap.size
  h4 : w.heap.size ≤ p4
  hS : ∀ i, S i → i < w.heap.size
  src : ∃ q, SrcAt W B b zs q
  box : W.heap[p5]? = some (.cells #[.int .i64 op, .string s, .slice a ts.length c] 24 (0, 0))
  res : W.heap[p4]? = some (.cells #[.int .i64 0, .string ⟨#[]⟩, .slice none 0 0] 24 (0, 0))
  forms : FormsIn W (fun i => S i ∨ p4 < i) a ts
  hop : I64 op
  hc1 : ts.length ≤ c
  hc2 : c ≤ maxLen
  gr : w.grownBy W (some b)
  nod : (Tree.node op s ts).nodes ≤ t.nodes + 20
  nm : (Tree.node op s ts).all (nmLe (N + 1)) = true
  hN : N ≤ 1000

theorem SpE.done {N : Nat} {S : Nat → Prop} {t : Tree} {w : World} {B b p4 p5 : Nat} {zs : List Int} {op : Int} {s : ByteArray} {a : Option Addr} {c : Nat} {ts : List Tree} {W : World} (h : SpE N S t w B b p4 p5 zs op s a c ts W) :
    SpPost N S t w B b zs (.returned (.agg #[.int .i64 op, .string s, .slice a ts.length c])) (((W.setCell ⟨p4, 0, none⟩ (.int .i64 op)).setCell ⟨p4, 1, none⟩ (.string s)).setCell ⟨p4, 2, none⟩ (.slice a ts.length c)) := by
  have h3 := set_three W p4 (.int .i64 op) (.string s) (.slice a ts.length c)
  obtain ⟨q, hq⟩ := h.src
  have h4 := h.h4
  have hb := h.hb
  have hB := hq.base
  have hs : s.size ≤ maxLen := by
    have h1 : s.size ≤ N + 1 := of_decide_eq_true (all_self h.nm).1
    have := h.hN
    unfold maxLen
    omega
  refine ⟨_, op, s, a, ts.length, c, q, rfl, h.nod, h.nm, FormIn.mk ((h.forms.kept fun i hi hl => h3.block i hl (fun e => ?_)).mono fun i _ hi => ?_) rfl h.hop hs h.hc1 h.hc2, hq.kept h3 (fun g e => by injection e with e; omega), only_new h.gr h3 h4⟩
  · injection e with e
    rcases hi with hi | hi
    · have := h.hS i hi
      omega
    · omega
  · rcases hi with hi | hi
    · exact .inl hi
    · exact .inr (by omega)

/-- The box's fields turn; the row stays. -/
theorem forms_apart {W W' : World} {S : Nat → Prop} {B p4 p5 : Nat} {v : Value} {ts : List Tree} (h : OwnG W B S v ts) (hS : ∀ i, S i → i ≠ p5) (hne : v.ownBlock ≠ some p5) (hB : p4 < B) (hg : W.grownBy W' (some p5)) : ∃ (a : Option Addr) (c : Nat), v = .slice a ts.length c ∧ ts.length ≤ c ∧ c ≤ maxLen ∧ FormsIn W' (fun i => S i ∨ p4 < i) a ts := by
  obtain ⟨a, c, rfl, h1, h2, h3, -⟩ := h.row
  refine ⟨a, c, rfl, h1, h2, (h3.kept fun i hi hl => hg.block i hl (fun e => ?_)).mono fun i _ hi => ?_⟩
  · injection e with e
    rcases hi with hi | hi
    · exact hS i hi e
    · exact hne (by rw [hi, e])
  · rcases hi with hi | hi
    · exact .inl hi
    · exact .inr (by have := (h.block i hi).1; omega)

theorem nmLe_gen {n N : Nat} (h : 12 ≤ N) {t : Tree} (ht : t.all (nodeG n) = true) : t.all (nmLe N) = true :=
  all_imp (fun t h1 => by
    have h2 := nodeG_name h1
    unfold nameB at h2
    refine decide_eq_true ?_
    split at h2
    · unfold vn at h2
      simp only [Bool.and_eq_true, decide_eq_true_eq] at h2
      omega
    · have : t.name.size = 0 := by simpa using h2
      omega) t ht

/-- The texts that the spoiler adds. -/
def spS : List ByteArray := [⟨#[97]⟩, ⟨#[65]⟩, ⟨#[]⟩, ⟨#[95]⟩]
theorem spS_size : ∀ s ∈ spS, s.size ≤ 1 := by decide
def isTexts (L : Nat) : Value → World → Prop := fun v w => ∃ nb : Nat, v = .slice (some ⟨nb, 0, none⟩) 4 4 ∧ L ≤ nb ∧ w.heap[nb]? = some (.cells (strRowK spS) 9 (0, 0))
def isShort : Value → World → Prop := fun v _ => ∃ s : ByteArray, v = .string s ∧ s.size ≤ 1

theorem nodesL_set (ts : List Tree) (m : Nat) (T : Tree) (h : m < ts.length) : nodesL (ts.set m T) + (ts[m]).nodes = nodesL ts + T.nodes := by
  induction ts generalizing m with
  | nil => simp at h
  | cons t ts ih =>
    cases m with
    | zero => simp only [List.set_cons_zero, List.getElem_cons_zero, nodesL]; omega
    | succ m =>
      have := ih m (by simpa using h)
      simp only [List.set_cons_succ, List.getElem_cons_succ, nodesL]
      omega

/-- What the way down leaves. -/
def isSpoilt (N : Nat) (S : Nat → Prop) (t : Tree) : Value → World → Prop := fun v w => ∃ (T : Tree) (o : Int) (s : ByteArray) (a : Option Addr) (m c : Nat), v = .agg #[.int .i64 o, .string s, .slice a m c] ∧ T.nodes ≤ t.nodes + 20 ∧ T.all (nmLe (N + 1)) = true ∧
  FormIn w S (.agg #[.int .i64 o, .string s, .slice a m c]) T

set_option maxRecDepth 100000 in
set_option maxHeartbeats 8000000 in
theorem spoilt_any (N : Nat) (hN12 : 12 ≤ N) (hN : N ≤ 1000) : ∀ t : Tree, t.nodes ≤ 100000 → t.all (nmLe N) = true → ∀ (B b : Nat) (zs : List Int) (k : Nat) (S : Nat → Prop) (v : Value) (w : World), SrcAt w B b zs k → ¬ S b → FormIn w S v t →
    Calls Tryz.prog 11 #[.pointer (some ⟨b, 0, none⟩), v] w (SpPost N (fun i => S i ∧ i < w.heap.size) t w B b zs) := by
  refine Tree.ind fun op name ts ih hnod hnm B b zs k S v w hsrc hSb hv => ?_
  obtain ⟨a, cap, -, -, rfl, hop, hname, hlen, hcap, -, -⟩ := hv.form
  have hforms := hv.forms
  simp only [Tree.op_node, Tree.name_node, Tree.args_node] at *
  have hlenn : ts.length ≤ 100000 := by
    have := nodes_len_le ts
    simp only [Tree.nodes] at hnod
    omega
  have hbl := hsrc.lt
  obtain ⟨W0, hW0⟩ : ∃ W0 : World, W0 = (w.alloc (.cells #[.int .i64 op, .string name, .slice a ts.length cap] 24)).alloc (.cells #[.int .i64 0, .string ⟨#[]⟩, .slice none 0 0] 24) := ⟨_, rfl⟩
  have hb0 : Below w.heap.size w W0 := by rw [hW0]; exact ((Below.refl _ _).alloc (Nat.le_refl _) _).alloc (by simp) _
  have hsz0 : W0.heap.size = w.heap.size + 2 := by rw [hW0]; simp
  have HK3 : Hid (W0.heap[w.heap.size]? = some (.cells #[.int .i64 op, .string name, .slice a ts.length cap] 24 (0, 0))) := by show _ = _; rw [hW0]; exact blk_kept (heap_alloc_new w _) (Grows.alloc _ _)
  have HK4 : Hid (W0.heap[w.heap.size + 1]? = some (.cells #[.int .i64 0, .string ⟨#[]⟩, .slice none 0 0] 24 (0, 0))) := by show _ = _; rw [hW0]; exact heap_alloc_at (by simp)
  have HS0 := hidIt (hsrc.grow (only_of_below hb0 none))
  have HF0 := hidIt ((hforms.mono (S' := fun i => S i ∧ i < w.heap.size) fun i hi h => ⟨h, hi⟩).go hb0)
  have HB0 := hidIt hb0
  have HW := hidIt hW0
  have HSZ0 := hidIt hsz0
  have HIH := hidIt ih
  have HNM := hidIt hnm
  have HND := hidIt hnod
  have HSB := hidIt hSb
  clear hv hforms hb0 hW0 ih hnm hnod hsrc hsz0
  unfold maxLen at hcap hname
  go_enter Tryz.func11, Tryz.ntmps11
  go_wp2_with fail
  rw [← HW.out]
  clear HW
  obtain ⟨x0, x1, x2⟩ := cell_of3 HK3.out
  have K0 := ext_cell3 x0
  have K1 := ext_cell3 x1
  have K2 := ext_cell3 x2
  have hlx := lt_of_block HK3.out
  clear x0 x1 x2
  haveI := Ext.nonempty W0
  refine Own.wp_region_tail 10 (Ext W0) Grows (Own.relTab [(11, Own.rA (isNil W0.heap.size)), (14, ⟨isCopy W0.heap.size (fun i => S i ∧ i < w.heap.size) ts, decide (0 < ts.length)⟩), (5, Own.rO (Own.isBox W0.heap.size))]) (by kernel_rfl) (by kernel_rfl) (by kernel_rfl) (by kernel_rfl) (by kernel_rfl) (by kernel_rfl) (Own.stableO_cons (isNil_up _) (Own.stableO_cons (isCopy_up _ _ _) (Own.stableO_cons (Own.isBox_up _) (Own.stableO_nil _)))) (Ext.start W0) ?_
  simp only [Own.idleTail]
  repeat (
    refine' Own.walkR_plain (by kernel_rfl) rfl rfl (fun wx hC hL => ?_) ?_
    rotate_left
    · (have hlw := Nat.lt_of_lt_of_le hlx (Below.size hC)
       simp only [K0 wx hC, K1 wx hC, K2 wx hC, hlw, go_sem]; first | done | (go_simp; exact ⟨rfl, rfl⟩))
    simp only [Act.put, List.setIfInBounds_toArray, List.set_cons_zero, List.set_cons_succ])
  refine Own.walkR_rel (by kernel_rfl) rfl rfl (of_decide_eq_true (by kernel_rfl)) (fun wx hC hL => ?_) (fun v hv => ?_)
  · go_simp
    exact ⟨hC.grown (Grows.alloc _ _), Grows.alloc _ _, ⟨_, rfl, Below.size hC, heap_alloc_new _ _⟩, fun h => by cases h⟩
  obtain ⟨_, _, nb11, rfl, hnb11, -⟩ := hv
  simp only [Act.put, List.setIfInBounds_toArray, List.set_cons_zero, List.set_cons_succ]
  repeat (
    refine' Own.walkR_plain (by kernel_rfl) rfl rfl (fun wx hC hL => ?_) ?_
    rotate_left
    · (have hlw := Nat.lt_of_lt_of_le hlx (Below.size hC)
       simp only [K0 wx hC, K1 wx hC, K2 wx hC, hlw, go_sem]; first | done | (go_simp; exact ⟨rfl, rfl⟩))
    simp only [Act.put, List.setIfInBounds_toArray, List.set_cons_zero, List.set_cons_succ])
  refine Own.walkR_rel (by kernel_rfl) rfl rfl (of_decide_eq_true (by kernel_rfl)) (fun wx hC hL => ?_) (fun v hv => ?_)
  · exact rel_copy (.tmp 11) (.tmp 13) rfl hC (Nat.le_refl _) rfl (hL.get 11 (by simp [Own.more]) (by kernel_rfl) rfl rfl) rfl (HF0.out.go hC) (by omega)
  obtain ⟨_, _, hv⟩ := hv
  obtain ⟨a5, c5, rfl, h5l, h5c, -⟩ := hv.1.form
  clear hv
  simp only [Act.put, List.setIfInBounds_toArray, List.set_cons_zero, List.set_cons_succ]
  repeat (
    refine' Own.walkR_plain (by kernel_rfl) rfl rfl (fun wx hC hL => ?_) ?_
    rotate_left
    · (have hlw := Nat.lt_of_lt_of_le hlx (Below.size hC)
       simp only [K0 wx hC, K1 wx hC, K2 wx hC, hlw, go_sem]; first | done | (go_simp; exact ⟨rfl, rfl⟩))
    simp only [Act.put, List.setIfInBounds_toArray, List.set_cons_zero, List.set_cons_succ])
  refine Own.walkR_rel (by kernel_rfl) rfl rfl (of_decide_eq_true (by kernel_rfl)) (fun wx hC hL => ?_) (fun v hv => ?_)
  · go_simp
    exact Own.boxO hC (Nat.le_refl _)
  obtain ⟨_, _, p5, rfl, hp5, -⟩ := hv
  simp only [Act.put, List.setIfInBounds_toArray, List.set_cons_zero, List.set_cons_succ]
  refine Own.walkR_idle rfl (fun wx _ => Below.refl _ _) ?_
  refine fun w1 hE1 hK => ?_
  have hsz0 := HSZ0.out
  have h14 : isCopy W0.heap.size (fun i => S i ∧ i < w.heap.size) ts (.slice a5 ts.length c5) w1 := hK.get 14 (by simp [Own.more]) rfl rfl
  obtain ⟨_, e5, -, hz5⟩ : Own.isBox W0.heap.size (.pointer (some ⟨p5, 0, none⟩)) w1 := hK.get 5 (by simp [Own.more]) rfl rfl
  injection e5 with e5
  injection e5 with e5
  injection e5 with e5
  subst e5
  have hne : (Value.slice a5 ts.length c5).ownBlock ≠ some p5 := by
    by_cases h0 : 0 < ts.length
    · have h1 : Own.apartV (.slice a5 ts.length c5) (.pointer (some ⟨p5, 0, none⟩)) := hK.ne 14 5 (by simp [Own.more]) (by simp [Own.more]) (by decide) rfl rfl (decide_eq_true h0) rfl rfl rfl
      intro e
      cases a5 with
      | none => cases e
      | some ad =>
        have e2 : ad.block = p5 := by simpa [Value.ownBlock] using e
        exact h1 p5 (by simp [Own.vblk, e2]) rfl
    · obtain ⟨nb, e, -, hblk⟩ := h14.2 (by omega)
      rw [e]
      intro e2
      have e3 : nb = p5 := by simpa [Value.ownBlock] using e2
      rw [e3, hz5] at hblk
      injection hblk with hblk
      injection hblk with h1 h2
      simp at h1
  have hown := h14.1
  clear hK h14
  simp only [List.drop_succ_cons, List.drop_zero]
  have hs1 := set_three w1 p5 (.int .i64 op) (.string name) (.slice a5 ts.length c5)
  have hz5' := Own.set_blk3 (x' := .int .i64 op) (y' := .string name) (z' := .slice a5 ts.length c5) hz5
  have hl5 := lt_of_block hz5
  have HG1 := hidIt (only_new (only_of_below (HB0.out.trans (Below.mono hE1 HB0.out.size)) (some b)) hs1 (by omega))
  have HO1 := hidIt (hown.kept hs1 (fun g e => by injection e with e; subst e; exact ⟨hne, fun h => by omega⟩))
  have HR1 : Hid ((((w1.setCell ⟨p5, 0, none⟩ (.int .i64 op)).setCell ⟨p5, 1, none⟩ (.string name)).setCell ⟨p5, 2, none⟩ (.slice a5 ts.length c5)).heap[w.heap.size + 1]? = some (.cells #[.int .i64 0, .string ⟨#[]⟩, .slice none 0 0] 24 (0, 0))) := by
    show _ = _
    have h1 := blk_kept HK4.out hE1
    rw [hs1.block (w.heap.size + 1) (lt_of_block h1) (fun e => by injection e with e; omega)]
    exact h1
  have HS1 := hidIt ((HS0.out.grow (only_of_below hE1 none)).kept hs1 (fun g e => by have := HS0.out.base; injection e with e; exact ⟨by omega, by omega⟩))
  have HZ5 := hidIt hz5'
  have HNE := hidIt hne
  obtain ⟨r0, r1, r2⟩ := cell_of3 hz5
  obtain ⟨f0, f1, f2⟩ := cells_free hz5
  unfold maxLen at h5c
  have HB5 : Hid (W0.heap.size ≤ p5) := hp5
  have hlt1 : b < (((w1.setCell ⟨p5, 0, none⟩ (.int .i64 op)).setCell ⟨p5, 1, none⟩ (.string name)).setCell ⟨p5, 2, none⟩ (.slice a5 ts.length c5)).heap.size := HS1.out.lt
  have HSUB : Hid (∀ i, (S i ∧ i < w.heap.size) → i ≠ p5) := fun i h => by omega
  have hp4 : ¬ w.heap.size + 1 = p5 := by omega
  have hp4' : ¬ p5 = w.heap.size + 1 := by omega
  have hp5b : b ≠ p5 := by omega
  have h5p : p5 < (((w1.setCell ⟨p5, 0, none⟩ (.int .i64 op)).setCell ⟨p5, 1, none⟩ (.string name)).setCell ⟨p5, 2, none⟩ (.slice a5 ts.length c5)).heap.size := lt_of_block HZ5.out
  clear hs1 hz5' hown hz5 hE1 hne K0 K1 K2 HS0 HK3 HK4 HF0 HB0 hlx
  by_cases h0 : 0 < ts.length
  case pos =>
    have h0' : (0 : Int) < (ts.length : Int) := by omega
    go_wp2_with fail
    generalize (((w1.setCell ⟨p5, 0, none⟩ (.int .i64 op)).setCell ⟨p5, 1, none⟩ (.string name)).setCell ⟨p5, 2, none⟩ (.slice a5 ts.length c5)) = W1 at *
    clear r0 r1 r2 f0 f1 f2
    refine (sn_nat 3 (by omega) (by omega) B b zs k _ HS1.out).mono ?_
    rintro e W2 ⟨z3, k2, rfl, hz3, hs2, hg2⟩
    have HS2 := hidIt hs2
    have HG2 := hidIt (only_trans HG1.out hg2)
    have HO2 := hidIt (HO1.out.kept hg2 (fun g e => by injection e with e; subst e; exact ⟨fun e2 => by have := (HO1.out.block _ e2).1; omega, fun h => HSB.out h.1⟩))
    have HR2 := hidIt (by have h1 := HR1.out; rw [← hg2.block _ (lt_of_block h1) (fun e => by injection e with e; omega)] at h1; exact h1 : W2.heap[w.heap.size + 1]? = some (.cells #[.int .i64 0, .string ⟨#[]⟩, .slice none 0 0] 24 (0, 0)))
    have HZ2 := hidIt (by have h1 := HZ5.out; rw [← hg2.block _ (lt_of_block h1) (fun e => by injection e with e; exact hp5b e.symm)] at h1; exact h1 : W2.heap[p5]? = some (.cells #[.int .i64 op, .string name, .slice a5 ts.length c5] 24 (0, 0)))
    have h5p2 : p5 < W2.heap.size := Nat.lt_of_lt_of_le h5p hg2.size
    clear hs2 hg2 HS1 HG1 HO1 HR1 HZ5 h5p hlt1
    obtain ⟨y0, y1, y2⟩ := cell_of3 HZ2.out
    by_cases hz : 0 < z3
    case pos =>
      have hz' : (0 : Int) < (z3 : Int) := by omega
      go_wp2_with fail
      refine (sn_nat (ts.length : Int) (by omega) (by omega) B b zs k2 _ HS2.out).mono ?_
      rintro e W3 ⟨m, k3, rfl, hm, hs3, hg3⟩
      have hm' : m < ts.length := by omega
      have HS3 := hidIt hs3
      have HG3 := hidIt (only_trans HG2.out hg3)
      have HO3 := hidIt (HO2.out.kept hg3 (fun g e => by injection e with e; subst e; exact ⟨fun e2 => by have := (HO2.out.block _ e2).1; omega, fun h => HSB.out h.1⟩))
      have HR3 := hidIt (by have h1 := HR2.out; rw [← hg3.block _ (lt_of_block h1) (fun e => by injection e with e; omega)] at h1; exact h1 : W3.heap[w.heap.size + 1]? = some (.cells #[.int .i64 0, .string ⟨#[]⟩, .slice none 0 0] 24 (0, 0)))
      have HZ3 := hidIt (by have h1 := HZ2.out; rw [← hg3.block _ (lt_of_block h1) (fun e => by injection e with e; exact hp5b e.symm)] at h1; exact h1 : W3.heap[p5]? = some (.cells #[.int .i64 op, .string name, .slice a5 ts.length c5] 24 (0, 0)))
      clear hs3 hg3 HS2 HG2 HO2 HR2 HZ2 y0 y1 y2 h5p2
      obtain ⟨g, cur, ai, cx, ci, ea, hgB, hgl, hcur, q0, q1, q2, hcl, hfi⟩ := HO3.out.at m hm'
      injection ea with ea1 ea2 ea3
      subst ea1 ea3
      have hgp : g ≠ p5 := fun e => HNE.out (by rw [← e]; rfl)
      have HCUR := hidIt hcur
      have HFI := hidIt hfi
      have HSUM := hidIt (nodesL_take_le ts (m + 1))
      have HTK := hidIt (nodesL_take ts m hm')
      have HMEM : Hid (ts[m] ∈ ts) := List.getElem_mem hm'
      obtain ⟨ti, hti⟩ : ∃ t, t = ts[m] := ⟨_, rfl⟩
      rw [← hti] at q0 q1 q2 HFI HTK HMEM
      have HTI := hidIt hti
      clear hti hfi hcur
      have hm0 : (0 : Int) ≤ (m : Int) := by omega
      have hml : (m : Int) < (ts.length : Int) := by omega
      go_wp2_with fail
      have hg3b : g ≠ b := by omega
      have hyl := lt_of_block HZ3.out
      have hbW : b < W3.heap.size := HS3.out.lt
      have Y2 : ∀ wx, (W3.grownBy wx (some b) ∧ ∃ q, SrcAt wx B b zs q) → wx.cell? ⟨p5, 2, none⟩ = some (.slice (some ⟨g, 0, none⟩) ts.length c5) := fun wx hC => hC.1.cell (cell_of3 HZ3.out).2.2 (fun e => hp5b (by injection e with e; exact e.symm))
      have Q0 : ∀ wx, (W3.grownBy wx (some b) ∧ ∃ q, SrcAt wx B b zs q) → wx.cell? ⟨g, m * 3, none⟩ = some (.int .i64 ti.op) := fun wx hC => hC.1.cell q0 (fun e => hg3b (by injection e))
      have Q1 : ∀ wx, (W3.grownBy wx (some b) ∧ ∃ q, SrcAt wx B b zs q) → wx.cell? ⟨g, m * 3 + 1, none⟩ = some (.string ti.name) := fun wx hC => hC.1.cell q1 (fun e => hg3b (by injection e))
      have Q2 : ∀ wx, (W3.grownBy wx (some b) ∧ ∃ q, SrcAt wx B b zs q) → wx.cell? ⟨g, m * 3 + 2, none⟩ = some (.slice ai ti.args.length ci) := fun wx hC => hC.1.cell q2 (fun e => hg3b (by injection e))
      have HCALL : Hid (∀ wx, (W3.grownBy wx (some b) ∧ ∃ q, SrcAt wx B b zs q) → Calls Tryz.prog 11 #[.pointer (some ⟨b, 0, none⟩), .agg #[.int .i64 ti.op, .string ti.name, .slice ai ti.args.length ci]] wx fun e w'' => ∃ u, e = .returned u ∧ (W3.grownBy w'' (some b) ∧ ∃ q, SrcAt w'' B b zs q) ∧ wx.grownBy w'' (some b) ∧ Own.relR (Own.rA (isSpoilt N (fun i => (S i ∧ i < w.heap.size) ∨ W3.heap.size ≤ i) ti)) wx u w'') := fun wx hC => by
        obtain ⟨hC1, q, hq⟩ := hC
        have hti := HMEM.out
        have hn1 : ti.nodes ≤ 100000 := by have h1 := HTK.out; have h2 := HSUM.out; have h3 := HND.out; simp only [Tree.nodes] at h3; omega
        have hn2 : ti.all (nmLe N) = true := allL_mem (all_self HNM.out).2 ti hti
        refine (HIH.out ti hti hn1 hn2 B b zs q (fun i => S i ∧ i < w.heap.size) _ wx hq (fun h => HSB.out h.1) (HFI.out.kept fun i hi hl => hC1.block i hl (fun e => HSB.out (by injection e with e; subst e; exact hi.1)))).mono ?_
        rintro e w'' ⟨T, o, sx, ax, mx, cx, q', rfl, h1, h2, h3, h4, h5⟩
        exact ⟨_, rfl, ⟨only_trans hC1 h5, _, h4⟩, h5, ⟨T, o, sx, ax, mx, cx, rfl, h1, h2, h3.mono fun i _ hi => by
          rcases hi with hi | hi
          · exact .inl hi.1
          · exact .inr (Nat.le_trans hC1.size hi)⟩, fun h => by cases h⟩
      clear HIH
      refine Own.wp_region_tail 11 (fun wx => W3.grownBy wx (some b) ∧ ∃ q, SrcAt wx B b zs q) (fun x y => x.grownBy y (some b)) (Own.relTab [(39, Own.rA (isSpoilt N (fun i => (S i ∧ i < w.heap.size) ∨ W3.heap.size ≤ i) ti))]) (by kernel_rfl) (by kernel_rfl) (by kernel_rfl) (by kernel_rfl) (by kernel_rfl) (by kernel_rfl) ⟨fun _ _ h => h.size, fun s r hs v x y hx hy hg hr => ?_⟩ ⟨only_of_below (Below.refl _ _).drew _, _, HS3.out.grow (only_of_below (Below.refl _ _).drew none)⟩ ?_
      · unfold Own.relTab at hs
        split at hs
        · injection hs with hs
          subst hs
          obtain ⟨T, o, sx, ax, mx, cx, h1, h2, h3, h4⟩ := hr
          exact ⟨T, o, sx, ax, mx, cx, h1, h2, h3, h4.kept fun i hi hl => hg.block i hl (fun e => by
            injection e with e
            subst e
            rcases hi with hi | hi
            · exact HSB.out hi.1
            · omega)⟩
        · cases hs
      simp only [Own.idleTail]
      repeat (
        refine' Own.walkR_plain (by kernel_rfl) rfl rfl (fun wx hC hL => ?_) ?_
        rotate_left
        · (have hlw := Nat.lt_of_lt_of_le hyl hC.1.size
           have hlg := Nat.lt_of_lt_of_le hgl hC.1.size
           simp only [Y2 wx hC, hlw, go_sem]; first | done | (go_simp; exact ⟨rfl, rfl⟩))
        simp only [Act.put, List.setIfInBounds_toArray, List.set_cons_zero, List.set_cons_succ])
      repeat (
        refine' Own.walkR_plain (by kernel_rfl) rfl rfl (fun wx hC hL => ?_) ?_
        rotate_left
        · (have hlw := Nat.lt_of_lt_of_le hyl hC.1.size
           have hlg := Nat.lt_of_lt_of_le hgl hC.1.size
           simp only [Y2 wx hC, Q0 wx hC, Q1 wx hC, Q2 wx hC, hlw, hlg, go_sem]; first | done | (go_simp; exact ⟨rfl, rfl⟩))
        simp only [Act.put, List.setIfInBounds_toArray, List.set_cons_zero, List.set_cons_succ])
      refine Own.walkR_rel (by kernel_rfl) rfl rfl (of_decide_eq_true (by kernel_rfl)) (fun wx hC hL => ?_) (fun v hv => ?_)
      · go_simp
        exact HCALL.out wx hC
      obtain ⟨_, _, T0, o0, s0, a0, n0, c0, rfl, -⟩ := hv
      simp only [Act.put, List.setIfInBounds_toArray, List.set_cons_zero, List.set_cons_succ]
      repeat (
        refine' Own.walkR_plain (by kernel_rfl) rfl rfl (fun wx hC hL => ?_) ?_
        rotate_left
        · (have hlw := Nat.lt_of_lt_of_le hyl hC.1.size
           have hlg := Nat.lt_of_lt_of_le hgl hC.1.size
           simp only [Y2 wx hC, hlw, hlg, go_sem]; first | done | (go_simp; exact ⟨rfl, rfl⟩))
        simp only [Act.put, List.setIfInBounds_toArray, List.set_cons_zero, List.set_cons_succ])
      refine' Own.walkR_idle (by rfl) ?_ ?_
      · exact fun wx _ => only_refl wx (some b)
      refine fun W4 hC4 hK => ?_
      obtain ⟨T, o, sx, ax, mx, cx', e9, hTn, hTm, hTf⟩ : isSpoilt N (fun i => (S i ∧ i < w.heap.size) ∨ W3.heap.size ≤ i) ti (.agg #[.int .i64 o0, .string s0, .slice a0 n0 c0]) W4 := hK.get 39 (by simp [Own.more]) rfl rfl
      simp at e9
      obtain ⟨rfl, rfl, rfl, rfl, rfl⟩ := e9
      obtain ⟨hg4, k4, hs4⟩ := hC4
      clear hK HCALL Y2 Q0 Q1 Q2
      simp only [List.drop_succ_cons, List.drop_zero]
      have hcur4 := (hg4.block g hgl (fun e => hg3b (by injection e))).trans HCUR.out
      have HG4 := hidIt (only_trans HG3.out hg4)
      have hz4 := (hg4.block p5 hyl (fun e => hp5b (by injection e with e; exact e.symm))).trans HZ3.out
      have hr4 := (hg4.block (w.heap.size + 1) (lt_of_block HR3.out) (fun e => by injection e with e; omega)).trans HR3.out
      have hO4 := HO3.out.kept hg4 (fun g' e => by injection e with e; subst e; exact ⟨fun e2 => by have := (HO3.out.block _ e2).1; omega, fun h => HSB.out h.1⟩)
      have hput := hO4.put (S' := fun i => (S i ∧ i < w.heap.size) ∨ W3.heap.size ≤ i) (fun i h => .inl h) (fun h => by rcases h with h | h <;> omega) m hm' hTf
      have hrow := set_row3 W4 g (m * 3) (.int .i64 o0) (.string s0) (.slice a0 n0 c0)
      have hgr4 : w.heap.size + 1 ≠ g := by omega
      have hforms : FormsIn (((W4.setCell ⟨g, m * 3, none⟩ (.int .i64 o0)).setCell ⟨g, m * 3 + 1, none⟩ (.string s0)).setCell ⟨g, m * 3 + 2, none⟩ (.slice a0 n0 c0)) (fun i => (S i ∧ i < w.heap.size) ∨ w.heap.size + 1 < i) (some ⟨g, 0, none⟩) (ts.set m T) := hput.mono fun i _ hi => by
        rcases hi with (h | h) | h
        · exact .inl h
        · exact .inr (by omega)
        · exact .inr (by omega)
      have hnset := nodesL_set ts m T hm'
      rw [← HTI.out] at hnset
      have hlen : (ts.set m T).length = ts.length := List.length_set
      have HE : Hid (SpE N (fun i => S i ∧ i < w.heap.size) (.node op name ts) w B b (w.heap.size + 1) p5 zs op name (some ⟨g, 0, none⟩) c5 (ts.set m T) (((W4.setCell ⟨g, m * 3, none⟩ (.int .i64 o0)).setCell ⟨g, m * 3 + 1, none⟩ (.string s0)).setCell ⟨g, m * 3 + 2, none⟩ (.slice a0 n0 c0))) :=
        ⟨hbl, by omega, fun i h => h.2, ⟨_, hs4.kept hrow (fun g' e => by have := hs4.base; injection e with e; exact ⟨by omega, by omega⟩)⟩, by rw [hlen, hrow.block p5 (lt_of_block hz4) (fun e => hgp (by injection e with e; exact e.symm))]; exact hz4, by rw [hrow.block _ (lt_of_block hr4) (fun e => hgr4 (by injection e))]; exact hr4, hforms, hop, by omega, by unfold maxLen; omega, only_new HG4.out hrow (by omega), by simp only [Tree.nodes]; omega, nmLe_node (by have := of_decide_eq_true (all_self HNM.out).1; exact Nat.le_trans this (by omega)) (fun t ht => by
          rcases List.mem_or_eq_of_mem_set ht with h | h
          · exact nmLe_up (by omega) (allL_mem (all_self HNM.out).2 t h)
          · rw [h]; exact hTm), hN⟩
      obtain ⟨g9, cur9, ai9, c9, ci9, e9, -, -, -, u0, u1, u2, -, -⟩ := hO4.at m hm'
      injection e9 with e91 e92 e93
      injection e91 with e91
      injection e91 with e91
      subst e91 e93
      have v0 := free_any hcur4 (m * 3)
      have v1 := free_any hcur4 (m * 3 + 1)
      have v2 := free_any hcur4 (m * 3 + 2)
      have hgl4 := lt_of_block hcur4
      obtain ⟨y0, y1, y2⟩ := cell_of3 hz4
      obtain ⟨r0, r1, r2⟩ := cell_of3 hr4
      obtain ⟨f0, f1, f2⟩ := cells_free hr4
      have hrl := lt_of_block hr4
      have hyl4 := lt_of_block hz4
      have hgp' : ¬ p5 = g := fun e => hgp e.symm
      have hgp : ¬ g = p5 := hgp
      have hgr4' : ¬ g = w.heap.size + 1 := fun e => hgr4 e.symm
      have hgr4 : ¬ w.heap.size + 1 = g := hgr4
      clear hforms hput hrow hO4 hz4 hr4 hcur4 hs4 hg4 hTf hnset q0 q1 q2
      go_wp2_with fail
      refine bodyPost_ret (v := .agg #[.int .i64 op, .string name, .slice (some ⟨g, 0, none⟩) ts.length c5]) (by simp [results, Tryz.results11, go_sem, r0, r1, r2, hrl, hp4, hp4', hgr4, hgr4']) rfl ?_
      have h9 := HE.out.done
      rw [hlen] at h9
      exact h9
    case neg =>
      obtain rfl : z3 = 0 := by omega
      go_wp2_with fail
      clear y0 y1 y2
      refine (sn_nat 5 (by omega) (by omega) B b zs k2 _ HS2.out).mono ?_
      rintro e W3 ⟨z, k3, rfl, hz5, hs3, hg3⟩
      have HS3 := hidIt hs3
      have HG3 := hidIt (only_trans HG2.out hg3)
      have HO3 := hidIt (HO2.out.kept hg3 (fun g e => by injection e with e; subst e; exact ⟨fun e2 => by have := (HO2.out.block _ e2).1; omega, fun h => HSB.out h.1⟩))
      have HR3 := hidIt (by have h1 := HR2.out; rw [← hg3.block _ (lt_of_block h1) (fun e => by injection e with e; omega)] at h1; exact h1 : W3.heap[w.heap.size + 1]? = some (.cells #[.int .i64 0, .string ⟨#[]⟩, .slice none 0 0] 24 (0, 0)))
      have HZ3 := hidIt (by have h1 := HZ2.out; rw [← hg3.block _ (lt_of_block h1) (fun e => by injection e with e; exact hp5b e.symm)] at h1; exact h1 : W3.heap[p5]? = some (.cells #[.int .i64 op, .string name, .slice a5 ts.length c5] 24 (0, 0)))
      have h5p3 : p5 < W3.heap.size := lt_of_block HZ3.out
      clear hs3 hg3
      rcases (by omega : z = 0 ∨ z = 1 ∨ z = 2 ∨ z = 3 ∨ z = 4) with rfl | rfl | rfl | rfl | rfl
      · go_wp2_with fail
        refine (sn_nat 11 (by omega) (by omega) B b zs k3 _ HS3.out).mono ?_
        rintro e W4 ⟨z11, k4, rfl, hz11, hs4, hg4⟩
        have hsub : wrap64 ((z11 : Int) - 1) = (z11 : Int) - 1 := by unfold wrap64; omega
        have HS4 := hidIt hs4
        have HG4 := hidIt (only_trans HG3.out hg4)
        have HO4 := hidIt (HO3.out.kept hg4 (fun g e => by injection e with e; subst e; exact ⟨fun e2 => by have := (HO3.out.block _ e2).1; omega, fun h => HSB.out h.1⟩))
        have HR4 := hidIt (by have h1 := HR3.out; rw [← hg4.block _ (lt_of_block h1) (fun e => by injection e with e; omega)] at h1; exact h1 : W4.heap[w.heap.size + 1]? = some (.cells #[.int .i64 0, .string ⟨#[]⟩, .slice none 0 0] 24 (0, 0)))
        have HZ4 := hidIt (by have h1 := HZ3.out; rw [← hg4.block _ (lt_of_block h1) (fun e => by injection e with e; exact hp5b e.symm)] at h1; exact h1 : W4.heap[p5]? = some (.cells #[.int .i64 op, .string name, .slice a5 ts.length c5] 24 (0, 0)))
        clear hs4 hg4
        have hset : W4.grownBy (W4.setCell ⟨p5, 0, none⟩ (.int .i64 ((z11 : Int) - 1))) (some p5) := only_setCell (p := ⟨p5, 0, none⟩) (only_refl W4 (some p5)) (.inl rfl) _
        obtain ⟨a6, c6, e6, hc61, hc62, hf6⟩ := forms_apart (p4 := w.heap.size + 1) HO4.out HSUB.out HNE.out (by have := HSZ0.out; omega) hset
        injection e6 with e61 e62 e63
        subst e61 e63
        have HE : Hid (SpE N (fun i => S i ∧ i < w.heap.size) (.node op name ts) w B b (w.heap.size + 1) p5 zs ((z11 : Int) - 1) name a5 c5 ts (W4.setCell ⟨p5, 0, none⟩ (.int .i64 ((z11 : Int) - 1)))) :=
          ⟨hbl, by omega, fun i h => h.2, ⟨_, HS4.out.kept hset (fun g e => by have := HS4.out.base; injection e with e; exact ⟨by omega, by omega⟩)⟩, setCell_heap_self HZ4.out _, by rw [hset.block _ (lt_of_block HR4.out) (fun e => hp4 (by injection e))]; exact HR4.out, hf6, by unfold I64; omega, hc61, hc62, only_new HG4.out hset (by omega), by simp only [Tree.nodes]; omega, nmLe_node (by have := of_decide_eq_true (all_self HNM.out).1; exact Nat.le_trans this (by omega)) (fun t ht => nmLe_up (by omega) (allL_mem (all_self HNM.out).2 t ht)), hN⟩
        obtain ⟨y0, y1, y2⟩ := cell_of3 HZ4.out
        obtain ⟨g0, g1, g2⟩ := cells_free HZ4.out
        obtain ⟨r0, r1, r2⟩ := cell_of3 HR4.out
        obtain ⟨f0, f1, f2⟩ := cells_free HR4.out
        have hrl := lt_of_block HR4.out
        have hyl := lt_of_block HZ4.out
        clear hset hf6
        go_wp2_with fail
        refine bodyPost_ret (v := .agg #[.int .i64 ((z11 : Int) - 1), .string name, .slice a5 ts.length c5]) (by simp [results, Tryz.results11, go_sem, r0, r1, r2, hrl, hp4, hp4']) rfl ?_
        exact HE.out.done
      · go_wp2_with fail
        have Y1 : ∀ wx, (W3.grownBy wx (some b) ∧ ∃ q, SrcAt wx B b zs q) → wx.cell? ⟨p5, 1, none⟩ = some (.string name) := fun wx hC => hC.1.cell (cell_of3 HZ3.out).2.1 (fun e => hp5b (by injection e with e; exact e.symm))
        have hbW : b < W3.heap.size := HS3.out.lt
        have hyl := lt_of_block HZ3.out
        have hnmz : name.size ≤ N := of_decide_eq_true (all_self HNM.out).1
        haveI : Nonempty (In fun wx => W3.grownBy wx (some b) ∧ ∃ q, SrcAt wx B b zs q) := ⟨⟨W3, only_refl _ _, _, HS3.out⟩⟩
        refine Own.wp_region_tail 7 (fun wx => W3.grownBy wx (some b) ∧ ∃ q, SrcAt wx B b zs q) (fun x y => x.grownBy y (some b)) (Own.relTab [(56, Own.rA (isTexts W3.heap.size)), (57, Own.rA isShort)]) (by kernel_rfl) (by kernel_rfl) (by kernel_rfl) (by kernel_rfl) (by kernel_rfl) (by kernel_rfl) ⟨fun _ _ h => h.size, fun s r hs v x y hx hy hg hr => ?_⟩ ⟨only_of_below (Below.refl _ _).drew _, _, HS3.out.grow (only_of_below (Below.refl _ _).drew none)⟩ ?_
        · unfold Own.relTab at hs
          split at hs
          · injection hs with hs
            subst hs
            obtain ⟨nb, h1, h2, h3⟩ := hr
            exact ⟨nb, h1, h2, by rw [hg.block nb (lt_of_block h3) (fun e => by injection e with e; omega)]; exact h3⟩
          · unfold Own.relTab at hs
            split at hs
            · injection hs with hs
              subst hs
              exact hr
            · cases hs
        simp only [Own.idleTail]
        repeat (
          refine' Own.walkR_plain (by kernel_rfl) rfl rfl (fun wx hC hL => ?_) ?_
          rotate_left
          · (have hlw := Nat.lt_of_lt_of_le hyl hC.1.size
             simp only [Y1 wx hC, hlw, go_sem]; first | done | (go_simp; exact ⟨rfl, rfl⟩))
          simp only [Act.put, List.setIfInBounds_toArray, List.set_cons_zero, List.set_cons_succ])
        refine Own.walkR_rel (by kernel_rfl) rfl rfl (of_decide_eq_true (by kernel_rfl)) (fun wx hC hL => ?_) (fun v hv => ?_)
        · go_simp
          exact ⟨⟨only_alloc hC.1 _, hC.2.imp fun q h => h.alloc _⟩, only_alloc (only_refl _ _) _, ⟨_, rfl, hC.1.size, heap_alloc_new _ _⟩, fun h => by cases h⟩
        obtain ⟨_, _, nb6, rfl, -⟩ := hv
        simp only [Act.put, List.setIfInBounds_toArray, List.set_cons_zero, List.set_cons_succ]
        refine Own.walkR_rel (by kernel_rfl) rfl rfl (of_decide_eq_true (by kernel_rfl)) (fun wx hC hL => ?_) (fun v hv => ?_)
        · go_simp
          obtain ⟨nb, e, hn1, hn2⟩ : isTexts W3.heap.size (.slice (some ⟨nb6, 0, none⟩) 4 4) wx := hL.get 56 (by simp [Own.more]) (by kernel_rfl) rfl rfl
          injection e with e
          injection e with e
          injection e with e
          subst e
          obtain ⟨q, hq⟩ := hC.2
          refine (stext_any nb6 spS (by decide) (by decide) B b zs q wx hq hn2 (by omega)).mono ?_
          rintro e w' ⟨sx, q', rfl, hmem, hsx, hgx⟩
          exact ⟨_, rfl, ⟨only_trans hC.1 hgx, _, hsx⟩, hgx, ⟨sx, rfl, spS_size sx hmem⟩, fun h => by cases h⟩
        obtain ⟨_, _, sx, rfl, hsx⟩ := hv
        have hcl : ¬ 9223372036854775807 < name.size + sx.size := by omega
        simp only [Act.put, List.setIfInBounds_toArray, List.set_cons_zero, List.set_cons_succ]
        repeat (
          refine' Own.walkR_plain (by kernel_rfl) rfl rfl (fun wx hC hL => ?_) ?_
          rotate_left
          · (have hlw := Nat.lt_of_lt_of_le hyl hC.1.size
             simp only [Y1 wx hC, hlw, go_sem]; first | done | (go_simp; exact ⟨rfl, rfl⟩))
          simp only [Act.put, List.setIfInBounds_toArray, List.set_cons_zero, List.set_cons_succ])
        refine' Own.walkR_idle (by rfl) ?_ ?_
        · exact fun wx _ => only_refl wx (some b)
        refine fun W4 hC4 hK => ?_
        obtain ⟨hg4, k4, hs4⟩ := hC4
        clear hK
        simp only [List.drop_succ_cons, List.drop_zero]
        have HS4 := hidIt hs4
        have HG4 := hidIt (only_trans HG3.out hg4)
        have HO4 := hidIt (HO3.out.kept hg4 (fun g e => by injection e with e; subst e; exact ⟨fun e2 => by have := (HO3.out.block _ e2).1; omega, fun h => HSB.out h.1⟩))
        have HR4 := hidIt (by have h1 := HR3.out; rw [← hg4.block _ (lt_of_block h1) (fun e => by injection e with e; omega)] at h1; exact h1 : W4.heap[w.heap.size + 1]? = some (.cells #[.int .i64 0, .string ⟨#[]⟩, .slice none 0 0] 24 (0, 0)))
        have HZ4 := hidIt (by have h1 := HZ3.out; rw [← hg4.block _ (lt_of_block h1) (fun e => by injection e with e; exact hp5b e.symm)] at h1; exact h1 : W4.heap[p5]? = some (.cells #[.int .i64 op, .string name, .slice a5 ts.length c5] 24 (0, 0)))
        clear hs4 hg4
        have hcat : (name ++ sx).size ≤ N + 1 := by rw [ByteArray.size_append]; omega
        have hset : W4.grownBy (W4.setCell ⟨p5, 1, none⟩ (.string (name ++ sx))) (some p5) := only_setCell (p := ⟨p5, 1, none⟩) (only_refl W4 (some p5)) (.inl rfl) _
        obtain ⟨a6, c6, e6, hc61, hc62, hf6⟩ := forms_apart (p4 := w.heap.size + 1) HO4.out HSUB.out HNE.out (by have := HSZ0.out; omega) hset
        injection e6 with e61 e62 e63
        subst e61 e63
        have HE : Hid (SpE N (fun i => S i ∧ i < w.heap.size) (.node op name ts) w B b (w.heap.size + 1) p5 zs op (name ++ sx) a5 c5 ts (W4.setCell ⟨p5, 1, none⟩ (.string (name ++ sx)))) :=
          ⟨hbl, by omega, fun i h => h.2, ⟨_, HS4.out.kept hset (fun g e => by have := HS4.out.base; injection e with e; exact ⟨by omega, by omega⟩)⟩, setCell_heap_self HZ4.out _, by rw [hset.block _ (lt_of_block HR4.out) (fun e => hp4 (by injection e))]; exact HR4.out, hf6, hop, hc61, hc62, only_new HG4.out hset (by omega), by simp only [Tree.nodes]; omega, nmLe_node hcat (fun t ht => nmLe_up (by omega) (allL_mem (all_self HNM.out).2 t ht)), hN⟩
        obtain ⟨y0, y1, y2⟩ := cell_of3 HZ4.out
        obtain ⟨g0, g1, g2⟩ := cells_free HZ4.out
        obtain ⟨r0, r1, r2⟩ := cell_of3 HR4.out
        obtain ⟨f0, f1, f2⟩ := cells_free HR4.out
        have hrl := lt_of_block HR4.out
        have hyl := lt_of_block HZ4.out
        clear hset hf6
        go_wp2_with fail
        refine bodyPost_ret (v := .agg #[.int .i64 op, .string (name ++ sx), .slice a5 ts.length c5]) (by simp [results, Tryz.results11, go_sem, r0, r1, r2, hrl, hp4, hp4']) rfl ?_
        exact HE.out.done
      · go_wp2_with fail
        have x2 := (cell_of3 HZ3.out).2.2
        have y2 := (cells_free HZ3.out).2.2
        have HO3d := hidIt (HO3.out.go (Below.refl _ _).drew)
        have HS3d := hidIt (HS3.out.grow (only_of_below (Below.refl _ _).drew none))
        have hbW : b < W3.heap.size := HS3.out.lt
        have hW0 : W0.heap.size ≤ W3.heap.size := by omega
        have HOB := hidIt (HO3.out.block)
        have HOW : Hid (∀ i, ((S i ∧ i < w.heap.size) ∨ W3.heap.size ≤ i) → (Value.slice a5 ts.length c5).ownBlock ≠ some i) := fun i hi e => by
          have h1 := HOB.out i e
          have h2 := HSZ0.out
          omega
        go_region_law (first
          | ((refine step_append_formG (by rfl) (.tmp 63) (.tmp 66) (by rfl) W0.heap.size (fun i => (S i ∧ i < w.heap.size) ∨ W3.heap.size ≤ i) (.slice a5 ts.length c5) ts (by rfl) (((HO3d.out.kept hg4 (fun g e => by injection e with e; subst e; exact ⟨fun e2 => by have := (HOB.out _ e2).1; omega, fun h => HSB.out h.1⟩)).go (Grows.alloc _ _)).mono (fun i h => .inl h)) HOW.out _ 1 (by rfl) (heap_alloc_new W4 _) t2 ((hf2.mono (fun i _ hi => .inr hi)).go (Grows.alloc _ _)) (by omega) (by have h1 : W3.heap.size ≤ W4.heap.size := hg4.size; simp; omega) ?_); intro a6 c6 W5 hown5 hg5 hbl5; have hz5 : W5.heap[p5]? = some (.cells #[.int .i64 op, .string name, .slice a5 ts.length c5] 24 (0, 0)) := (hg5.block p5 (lt_of_block (blk_kept hz4 (Grows.alloc _ _))) (fun e => HNE.out e.symm)).trans (blk_kept hz4 (Grows.alloc _ _)); have x5 := (cell_of3 hz5).2.2; have y5 := (cells_free hz5).2.2; have l5 := lt_of_block hz5)
          | (go_simp; go_at_call 10; refine (sform_any 3 (by omega) (by omega) 1 (by omega) B b zs k3 _ HS3d.out).mono ?_; rintro e W4 ⟨t2, o2, s2, a2, m2, c2, k4, rfl, hgood, hdep, hf2, hs4, hg4⟩; have hz4 : W4.heap[p5]? = some (.cells #[.int .i64 op, .string name, .slice a5 ts.length c5] 24 (0, 0)) := (hg4.block p5 h5p3 (fun e => hp5b (by injection e with e; exact e.symm))).trans HZ3.out; have x3 := (cell_of3 hz4).2.2; have l3 := lt_of_block hz4))
        all_goals
          have hsz4 : W3.heap.size ≤ W4.heap.size := hg4.size
          have hg45 : W4.grownBy (W4.alloc (.cells #[.int .i64 o2, .string s2, .slice a2 m2 c2] 24)) none := only_alloc (only_refl _ _) _
          have hown6 : ∀ g, (Value.slice a5 ts.length c5).ownBlock = some g → W0.heap.size ≤ g ∧ g ≠ b := fun g e => by have := HOB.out g e; omega
          have hs5 := ((hs4.alloc (.cells #[.int .i64 o2, .string s2, .slice a2 m2 c2] 24)).kept hg5 (fun g e => by have h1 := hown6 g e; have h2 := hs4.base; exact ⟨by have := HSZ0.out; omega, h1.2⟩))
          have hgw4 : w.grownBy (W4.alloc (.cells #[.int .i64 o2, .string s2, .slice a2 m2 c2] 24)) (some b) := only_alloc (only_trans (only_trans HG3.out (only_of_below (Below.refl _ _).drew _)) hg4) _
          have hgw5 : w.grownBy W5 (some b) := by
            refine ⟨hg5.os.trans hgw4.os, hg5.tape.trans hgw4.tape, hg5.output.trans hgw4.output, Nat.le_trans hgw4.size hg5.size, fun i hi hne => (hg5.block i (Nat.lt_of_lt_of_le hi hgw4.size) (fun e => ?_)).trans (hgw4.block i hi hne)⟩
            have h1 := hown6 i e.symm
            have h2 := HSZ0.out
            omega
          have hr5 : W5.heap[w.heap.size + 1]? = some (.cells #[.int .i64 0, .string ⟨#[]⟩, .slice none 0 0] 24 (0, 0)) := by
            have h1 : W4.heap[w.heap.size + 1]? = some (.cells #[.int .i64 0, .string ⟨#[]⟩, .slice none 0 0] 24 (0, 0)) := (hg4.block (w.heap.size + 1) (lt_of_block HR3.out) (fun e => by injection e with e; omega)).trans HR3.out
            have h2 := blk_kept h1 (Grows.alloc W4 (.cells #[.int .i64 o2, .string s2, .slice a2 m2 c2] 24))
            exact (hg5.block _ (lt_of_block h2) (fun e => by have h3 := hown6 _ e.symm; have h4 := HSZ0.out; omega)).trans h2
          have hne6 : (Value.slice a6 (ts.length + 1) c6).ownBlock ≠ some p5 := fun e => by
            rcases hbl5 with h | h
            · exact HNE.out (h.symm.trans e)
            · rw [h] at e
              injection e with e
              simp at e
              omega
          have hset : W5.grownBy (W5.setCell ⟨p5, 2, none⟩ (.slice a6 (ts.length + 1) c6)) (some p5) := only_setCell (p := ⟨p5, 2, none⟩) (only_refl W5 (some p5)) (.inl rfl) _
          have hle : (ts ++ [t2]).length = ts.length + 1 := by simp
          obtain ⟨a7, c7, e7, hc71, hc72, hf7⟩ := forms_apart (p4 := w.heap.size + 1) hown5 (fun i hi => by omega) hne6 (by have := HSZ0.out; omega) hset
          rw [hle] at e7
          injection e7 with e71 e72 e73
          subst e71 e73
          have hf8 : FormsIn (W5.setCell ⟨p5, 2, none⟩ (.slice a6 (ts.length + 1) c6)) (fun i => (S i ∧ i < w.heap.size) ∨ w.heap.size + 1 < i) a6 (ts ++ [t2]) := hf7.mono fun i _ hi => by
            rcases hi with (h | h) | h
            · exact .inl h
            · exact .inr (by omega)
            · exact .inr h
          have hn2 : t2.nodes ≤ 4 := gen_nodes t2 1 hgood hdep
          have HE : Hid (SpE N (fun i => S i ∧ i < w.heap.size) (.node op name ts) w B b (w.heap.size + 1) p5 zs op name a6 c6 (ts ++ [t2]) (W5.setCell ⟨p5, 2, none⟩ (.slice a6 (ts.length + 1) c6))) :=
            ⟨hbl, by omega, fun i h => h.2, ⟨_, hs5.kept hset (fun g' e => by have := hs5.base; injection e with e; exact ⟨by omega, by omega⟩)⟩, by rw [hle]; exact setCell_heap_self hz5 _, by rw [hset.block _ (lt_of_block hr5) (fun e => hp4 (by injection e))]; exact hr5, hf8, hop, hc71, hc72, only_new hgw5 hset (by omega), by simp only [Tree.nodes, nodesL_append, nodesL]; omega, nmLe_node (by have := of_decide_eq_true (all_self HNM.out).1; exact Nat.le_trans this (by omega)) (fun t ht => by
              rcases List.mem_append.1 ht with h | h
              · exact nmLe_up (by omega) (allL_mem (all_self HNM.out).2 t h)
              · rw [List.mem_singleton.1 h]
                exact nmLe_gen (by omega) hgood), hN⟩
          obtain ⟨q0, q1, q2⟩ := cell_of3 hz5
          obtain ⟨g0, g1, g2⟩ := cells_free hz5
          obtain ⟨r0, r1, r2⟩ := cell_of3 hr5
          obtain ⟨f0, f1, f2⟩ := cells_free hr5
          have hrl := lt_of_block hr5
          clear hset hf7 hf8 hz5 hr5 hgw5 hgw4 hs5 hg45 hown5 hg5 hbl5 hz4 hs4 hg4 hf2 x2 y2
          go_wp2_with fail
          refine bodyPost_ret (v := .agg #[.int .i64 op, .string name, .slice a6 (ts.length + 1) c6]) (by simp [results, Tryz.results11, go_sem, r0, r1, r2, hrl, hp4, hp4']) rfl ?_
          have h9 := HE.out.done
          rw [hle] at h9
          exact h9
      · obtain ⟨g, rfl⟩ : ∃ g, a5 = some ⟨g, 0, none⟩ := by
          obtain ⟨ar, cr, er, -, -, -, h⟩ := HO3.out.row
          injection er with e1 e2 e3
          obtain ⟨g, hg, -⟩ := h h0
          exact ⟨g, e1.trans hg⟩
        obtain ⟨t0, tl, htl⟩ : ∃ t0 tl, ts = t0 :: tl := by
          cases ts with
          | nil => simp at h0
          | cons x y => exact ⟨x, y, rfl⟩
        have hnodt : (Tree.node op name tl).nodes ≤ (Tree.node op name ts).nodes := by rw [htl]; simp only [Tree.nodes, nodesL]; omega
        have hmem : ∀ t ∈ tl, t ∈ ts := fun t ht => by rw [htl]; simp [ht]
        have hlen : ts.length = tl.length + 1 := by rw [htl]; rfl
        have HFT : Hid (∀ W', W3.grownBy W' (some p5) → FormsIn W' (fun i => (S i ∧ i < w.heap.size) ∨ w.heap.size + 1 < i) (some ⟨g, 3, none⟩) tl) := fun W' hg => by
          obtain ⟨a6, c6, e6, -, -, hf6⟩ := forms_apart (p4 := w.heap.size + 1) HO3.out HSUB.out HNE.out (by have := HSZ0.out; omega) hg
          injection e6 with e61 e62 e63
          subst e61
          rw [htl] at hf6
          exact hf6.tail
        have hnmt : (Tree.node op name tl).all (nmLe (N + 1)) = true := nmLe_node (by have := of_decide_eq_true (all_self HNM.out).1; exact Nat.le_trans this (by omega)) (fun t ht => nmLe_up (by omega) (allL_mem (all_self HNM.out).2 t (hmem t ht)))
        have hc5 : tl.length + 1 ≤ c5 := by omega
        have h1n : (1 : Int) ≤ (tl.length : Int) + 1 := by omega
        have HNT := hidIt hnmt
        have HND2 := hidIt hnodt
        clear hnmt hnodt hmem htl HIH HNM
        rw [hlen] at HZ3 h0' ⊢
        clear hlen h0 h0' h5l
        by_cases hc1 : c5 = 1
        case pos =>
          subst hc1
          obtain ⟨n, hn⟩ : ∃ n, n = tl.length := ⟨_, rfl⟩
          have hn0 : n = 0 := by omega
          subst hn0
          rw [← hn] at HZ3 h1n hc5 ⊢
          have htn : tl = [] := List.eq_nil_of_length_eq_zero hn.symm
          subst htn
          clear hn HFT hc5 h1n
          simp only [Nat.zero_add] at HZ3 ⊢
          have hset : W3.grownBy (W3.setCell ⟨p5, 2, none⟩ (.slice (some ⟨g, 0, none⟩) 0 0)) (some p5) := only_setCell (p := ⟨p5, 2, none⟩) (only_refl W3 (some p5)) (.inl rfl) _
          have HE : Hid (SpE N (fun i => S i ∧ i < w.heap.size) (.node op name ts) w B b (w.heap.size + 1) p5 zs op name (some ⟨g, 0, none⟩) 0 [] (W3.setCell ⟨p5, 2, none⟩ (.slice (some ⟨g, 0, none⟩) 0 0))) :=
            ⟨hbl, by omega, fun i h => h.2, ⟨_, HS3.out.kept hset (fun g' e => by have := HS3.out.base; injection e with e; exact ⟨by omega, by omega⟩)⟩, setCell_heap_self HZ3.out _, by rw [hset.block _ (lt_of_block HR3.out) (fun e => hp4 (by injection e))]; exact HR3.out, FormsIn.nil _, hop, Nat.le_refl _, Nat.zero_le _, only_new HG3.out hset (by omega), Nat.le_trans HND2.out (by omega), HNT.out, hN⟩
          obtain ⟨y0, y1, y2⟩ := cell_of3 HZ3.out
          obtain ⟨g0, g1, g2⟩ := cells_free HZ3.out
          obtain ⟨r0, r1, r2⟩ := cell_of3 HR3.out
          obtain ⟨f0, f1, f2⟩ := cells_free HR3.out
          have hrl := lt_of_block HR3.out
          have hyl := lt_of_block HZ3.out
          clear hset
          go_wp2_with fail
          refine bodyPost_ret (v := .agg #[.int .i64 op, .string name, .slice (some ⟨g, 0, none⟩) 0 0]) (by simp [results, Tryz.results11, go_sem, r0, r1, r2, hrl, hp4, hp4']) rfl ?_
          exact HE.out.done
        case neg =>
          have hset : W3.grownBy (W3.setCell ⟨p5, 2, none⟩ (.slice (some ⟨g, 3, none⟩) tl.length (c5 - 1))) (some p5) := only_setCell (p := ⟨p5, 2, none⟩) (only_refl W3 (some p5)) (.inl rfl) _
          have HE : Hid (SpE N (fun i => S i ∧ i < w.heap.size) (.node op name ts) w B b (w.heap.size + 1) p5 zs op name (some ⟨g, 3, none⟩) (c5 - 1) tl (W3.setCell ⟨p5, 2, none⟩ (.slice (some ⟨g, 3, none⟩) tl.length (c5 - 1)))) :=
            ⟨hbl, by omega, fun i h => h.2, ⟨_, HS3.out.kept hset (fun g' e => by have := HS3.out.base; injection e with e; exact ⟨by omega, by omega⟩)⟩, setCell_heap_self HZ3.out _, by rw [hset.block _ (lt_of_block HR3.out) (fun e => hp4 (by injection e))]; exact HR3.out, HFT.out _ hset, hop, by omega, by unfold maxLen; omega, only_new HG3.out hset (by omega), Nat.le_trans HND2.out (by omega), HNT.out, hN⟩
          obtain ⟨y0, y1, y2⟩ := cell_of3 HZ3.out
          obtain ⟨g0, g1, g2⟩ := cells_free HZ3.out
          obtain ⟨r0, r1, r2⟩ := cell_of3 HR3.out
          obtain ⟨f0, f1, f2⟩ := cells_free HR3.out
          have hrl := lt_of_block HR3.out
          have hyl := lt_of_block HZ3.out
          clear hset
          go_wp2_with fail
          refine bodyPost_ret (v := .agg #[.int .i64 op, .string name, .slice (some ⟨g, 3, none⟩) tl.length (c5 - 1)]) (by simp [results, Tryz.results11, go_sem, r0, r1, r2, hrl, hp4, hp4']) rfl ?_
          exact HE.out.done
      · have hz4 : True := trivial
        have hset : W3.grownBy (W3.setCell ⟨p5, 1, none⟩ (.string ⟨#[]⟩)) (some p5) := only_setCell (p := ⟨p5, 1, none⟩) (only_refl W3 (some p5)) (.inl rfl) _
        obtain ⟨a6, c6, e6, hc61, hc62, hf6⟩ := forms_apart (p4 := w.heap.size + 1) HO3.out HSUB.out HNE.out (by have := HSZ0.out; omega) hset
        injection e6 with e61 e62 e63
        subst e61 e63
        have HE : Hid (SpE N (fun i => S i ∧ i < w.heap.size) (.node op name ts) w B b (w.heap.size + 1) p5 zs op ⟨#[]⟩ a5 c5 ts (W3.setCell ⟨p5, 1, none⟩ (.string ⟨#[]⟩))) :=
          ⟨hbl, by omega, fun i h => h.2, ⟨_, HS3.out.kept hset (fun g e => by have := HS3.out.base; injection e with e; exact ⟨by omega, by omega⟩)⟩, setCell_heap_self HZ3.out _, by rw [hset.block _ (lt_of_block HR3.out) (fun e => hp4 (by injection e))]; exact HR3.out, hf6, hop, hc61, hc62, only_new HG3.out hset (by omega), by simp only [Tree.nodes]; omega, nmLe_node (Nat.zero_le _) (fun t ht => nmLe_up (by omega) (allL_mem (all_self HNM.out).2 t ht)), hN⟩
        obtain ⟨y0, y1, y2⟩ := cell_of3 HZ3.out
        obtain ⟨g0, g1, g2⟩ := cells_free HZ3.out
        obtain ⟨r0, r1, r2⟩ := cell_of3 HR3.out
        obtain ⟨f0, f1, f2⟩ := cells_free HR3.out
        have hrl := lt_of_block HR3.out
        have hyl := lt_of_block HZ3.out
        clear hset hf6
        go_wp2_with fail
        refine bodyPost_ret (v := .agg #[.int .i64 op, .string ⟨#[]⟩, .slice a5 ts.length c5]) (by simp [results, Tryz.results11, go_sem, r0, r1, r2, hrl, hp4, hp4']) rfl ?_
        exact HE.out.done
  case neg =>
    have h0' : decide ((0 : Int) < (ts.length : Int)) = false := decide_eq_false (by omega)
    go_wp2_with fail
    generalize (((w1.setCell ⟨p5, 0, none⟩ (.int .i64 op)).setCell ⟨p5, 1, none⟩ (.string name)).setCell ⟨p5, 2, none⟩ (.slice a5 ts.length c5)) = W1 at *
    clear r0 r1 r2 f0 f1 f2
    refine (sn_nat 5 (by omega) (by omega) B b zs k _ HS1.out).mono ?_
    rintro e W3 ⟨z, k3, rfl, hz5, hs3, hg3⟩
    have HS3 := hidIt hs3
    have HG3 := hidIt (only_trans HG1.out hg3)
    have HO3 := hidIt (HO1.out.kept hg3 (fun g e => by injection e with e; subst e; exact ⟨fun e2 => by have := (HO1.out.block _ e2).1; omega, fun h => HSB.out h.1⟩))
    have HR3 := hidIt (by have h1 := HR1.out; rw [← hg3.block _ (lt_of_block h1) (fun e => by injection e with e; omega)] at h1; exact h1 : W3.heap[w.heap.size + 1]? = some (.cells #[.int .i64 0, .string ⟨#[]⟩, .slice none 0 0] 24 (0, 0)))
    have HZ3 := hidIt (by have h1 := HZ5.out; rw [← hg3.block _ (lt_of_block h1) (fun e => by injection e with e; exact hp5b e.symm)] at h1; exact h1 : W3.heap[p5]? = some (.cells #[.int .i64 op, .string name, .slice a5 ts.length c5] 24 (0, 0)))
    have h5p3 : p5 < W3.heap.size := lt_of_block HZ3.out
    clear hs3 hg3
    rcases (by omega : z = 0 ∨ z = 1 ∨ z = 2 ∨ z = 3 ∨ z = 4) with rfl | rfl | rfl | rfl | rfl
    · go_wp2_with fail
      refine (sn_nat 11 (by omega) (by omega) B b zs k3 _ HS3.out).mono ?_
      rintro e W4 ⟨z11, k4, rfl, hz11, hs4, hg4⟩
      have hsub : wrap64 ((z11 : Int) - 1) = (z11 : Int) - 1 := by unfold wrap64; omega
      have HS4 := hidIt hs4
      have HG4 := hidIt (only_trans HG3.out hg4)
      have HO4 := hidIt (HO3.out.kept hg4 (fun g e => by injection e with e; subst e; exact ⟨fun e2 => by have := (HO3.out.block _ e2).1; omega, fun h => HSB.out h.1⟩))
      have HR4 := hidIt (by have h1 := HR3.out; rw [← hg4.block _ (lt_of_block h1) (fun e => by injection e with e; omega)] at h1; exact h1 : W4.heap[w.heap.size + 1]? = some (.cells #[.int .i64 0, .string ⟨#[]⟩, .slice none 0 0] 24 (0, 0)))
      have HZ4 := hidIt (by have h1 := HZ3.out; rw [← hg4.block _ (lt_of_block h1) (fun e => by injection e with e; exact hp5b e.symm)] at h1; exact h1 : W4.heap[p5]? = some (.cells #[.int .i64 op, .string name, .slice a5 ts.length c5] 24 (0, 0)))
      clear hs4 hg4
      have hset : W4.grownBy (W4.setCell ⟨p5, 0, none⟩ (.int .i64 ((z11 : Int) - 1))) (some p5) := only_setCell (p := ⟨p5, 0, none⟩) (only_refl W4 (some p5)) (.inl rfl) _
      obtain ⟨a6, c6, e6, hc61, hc62, hf6⟩ := forms_apart (p4 := w.heap.size + 1) HO4.out HSUB.out HNE.out (by have := HSZ0.out; omega) hset
      injection e6 with e61 e62 e63
      subst e61 e63
      have HE : Hid (SpE N (fun i => S i ∧ i < w.heap.size) (.node op name ts) w B b (w.heap.size + 1) p5 zs ((z11 : Int) - 1) name a5 c5 ts (W4.setCell ⟨p5, 0, none⟩ (.int .i64 ((z11 : Int) - 1)))) :=
        ⟨hbl, by omega, fun i h => h.2, ⟨_, HS4.out.kept hset (fun g e => by have := HS4.out.base; injection e with e; exact ⟨by omega, by omega⟩)⟩, setCell_heap_self HZ4.out _, by rw [hset.block _ (lt_of_block HR4.out) (fun e => hp4 (by injection e))]; exact HR4.out, hf6, by unfold I64; omega, hc61, hc62, only_new HG4.out hset (by omega), by simp only [Tree.nodes]; omega, nmLe_node (by have := of_decide_eq_true (all_self HNM.out).1; exact Nat.le_trans this (by omega)) (fun t ht => nmLe_up (by omega) (allL_mem (all_self HNM.out).2 t ht)), hN⟩
      obtain ⟨y0, y1, y2⟩ := cell_of3 HZ4.out
      obtain ⟨g0, g1, g2⟩ := cells_free HZ4.out
      obtain ⟨r0, r1, r2⟩ := cell_of3 HR4.out
      obtain ⟨f0, f1, f2⟩ := cells_free HR4.out
      have hrl := lt_of_block HR4.out
      have hyl := lt_of_block HZ4.out
      clear hset hf6
      go_wp2_with fail
      refine bodyPost_ret (v := .agg #[.int .i64 ((z11 : Int) - 1), .string name, .slice a5 ts.length c5]) (by simp [results, Tryz.results11, go_sem, r0, r1, r2, hrl, hp4, hp4']) rfl ?_
      exact HE.out.done
    · go_wp2_with fail
      have Y1 : ∀ wx, (W3.grownBy wx (some b) ∧ ∃ q, SrcAt wx B b zs q) → wx.cell? ⟨p5, 1, none⟩ = some (.string name) := fun wx hC => hC.1.cell (cell_of3 HZ3.out).2.1 (fun e => hp5b (by injection e with e; exact e.symm))
      have hbW : b < W3.heap.size := HS3.out.lt
      have hyl := lt_of_block HZ3.out
      have hnmz : name.size ≤ N := of_decide_eq_true (all_self HNM.out).1
      haveI : Nonempty (In fun wx => W3.grownBy wx (some b) ∧ ∃ q, SrcAt wx B b zs q) := ⟨⟨W3, only_refl _ _, _, HS3.out⟩⟩
      refine Own.wp_region_tail 7 (fun wx => W3.grownBy wx (some b) ∧ ∃ q, SrcAt wx B b zs q) (fun x y => x.grownBy y (some b)) (Own.relTab [(56, Own.rA (isTexts W3.heap.size)), (57, Own.rA isShort)]) (by kernel_rfl) (by kernel_rfl) (by kernel_rfl) (by kernel_rfl) (by kernel_rfl) (by kernel_rfl) ⟨fun _ _ h => h.size, fun s r hs v x y hx hy hg hr => ?_⟩ ⟨only_of_below (Below.refl _ _).drew _, _, HS3.out.grow (only_of_below (Below.refl _ _).drew none)⟩ ?_
      · unfold Own.relTab at hs
        split at hs
        · injection hs with hs
          subst hs
          obtain ⟨nb, h1, h2, h3⟩ := hr
          exact ⟨nb, h1, h2, by rw [hg.block nb (lt_of_block h3) (fun e => by injection e with e; omega)]; exact h3⟩
        · unfold Own.relTab at hs
          split at hs
          · injection hs with hs
            subst hs
            exact hr
          · cases hs
      simp only [Own.idleTail]
      repeat (
        refine' Own.walkR_plain (by kernel_rfl) rfl rfl (fun wx hC hL => ?_) ?_
        rotate_left
        · (have hlw := Nat.lt_of_lt_of_le hyl hC.1.size
           simp only [Y1 wx hC, hlw, go_sem]; first | done | (go_simp; exact ⟨rfl, rfl⟩))
        simp only [Act.put, List.setIfInBounds_toArray, List.set_cons_zero, List.set_cons_succ])
      refine Own.walkR_rel (by kernel_rfl) rfl rfl (of_decide_eq_true (by kernel_rfl)) (fun wx hC hL => ?_) (fun v hv => ?_)
      · go_simp
        exact ⟨⟨only_alloc hC.1 _, hC.2.imp fun q h => h.alloc _⟩, only_alloc (only_refl _ _) _, ⟨_, rfl, hC.1.size, heap_alloc_new _ _⟩, fun h => by cases h⟩
      obtain ⟨_, _, nb6, rfl, -⟩ := hv
      simp only [Act.put, List.setIfInBounds_toArray, List.set_cons_zero, List.set_cons_succ]
      refine Own.walkR_rel (by kernel_rfl) rfl rfl (of_decide_eq_true (by kernel_rfl)) (fun wx hC hL => ?_) (fun v hv => ?_)
      · go_simp
        obtain ⟨nb, e, hn1, hn2⟩ : isTexts W3.heap.size (.slice (some ⟨nb6, 0, none⟩) 4 4) wx := hL.get 56 (by simp [Own.more]) (by kernel_rfl) rfl rfl
        injection e with e
        injection e with e
        injection e with e
        subst e
        obtain ⟨q, hq⟩ := hC.2
        refine (stext_any nb6 spS (by decide) (by decide) B b zs q wx hq hn2 (by omega)).mono ?_
        rintro e w' ⟨sx, q', rfl, hmem, hsx, hgx⟩
        exact ⟨_, rfl, ⟨only_trans hC.1 hgx, _, hsx⟩, hgx, ⟨sx, rfl, spS_size sx hmem⟩, fun h => by cases h⟩
      obtain ⟨_, _, sx, rfl, hsx⟩ := hv
      have hcl : ¬ 9223372036854775807 < name.size + sx.size := by omega
      simp only [Act.put, List.setIfInBounds_toArray, List.set_cons_zero, List.set_cons_succ]
      repeat (
        refine' Own.walkR_plain (by kernel_rfl) rfl rfl (fun wx hC hL => ?_) ?_
        rotate_left
        · (have hlw := Nat.lt_of_lt_of_le hyl hC.1.size
           simp only [Y1 wx hC, hlw, go_sem]; first | done | (go_simp; exact ⟨rfl, rfl⟩))
        simp only [Act.put, List.setIfInBounds_toArray, List.set_cons_zero, List.set_cons_succ])
      refine' Own.walkR_idle (by rfl) ?_ ?_
      · exact fun wx _ => only_refl wx (some b)
      refine fun W4 hC4 hK => ?_
      obtain ⟨hg4, k4, hs4⟩ := hC4
      clear hK
      simp only [List.drop_succ_cons, List.drop_zero]
      have HS4 := hidIt hs4
      have HG4 := hidIt (only_trans HG3.out hg4)
      have HO4 := hidIt (HO3.out.kept hg4 (fun g e => by injection e with e; subst e; exact ⟨fun e2 => by have := (HO3.out.block _ e2).1; omega, fun h => HSB.out h.1⟩))
      have HR4 := hidIt (by have h1 := HR3.out; rw [← hg4.block _ (lt_of_block h1) (fun e => by injection e with e; omega)] at h1; exact h1 : W4.heap[w.heap.size + 1]? = some (.cells #[.int .i64 0, .string ⟨#[]⟩, .slice none 0 0] 24 (0, 0)))
      have HZ4 := hidIt (by have h1 := HZ3.out; rw [← hg4.block _ (lt_of_block h1) (fun e => by injection e with e; exact hp5b e.symm)] at h1; exact h1 : W4.heap[p5]? = some (.cells #[.int .i64 op, .string name, .slice a5 ts.length c5] 24 (0, 0)))
      clear hs4 hg4
      have hcat : (name ++ sx).size ≤ N + 1 := by rw [ByteArray.size_append]; omega
      have hset : W4.grownBy (W4.setCell ⟨p5, 1, none⟩ (.string (name ++ sx))) (some p5) := only_setCell (p := ⟨p5, 1, none⟩) (only_refl W4 (some p5)) (.inl rfl) _
      obtain ⟨a6, c6, e6, hc61, hc62, hf6⟩ := forms_apart (p4 := w.heap.size + 1) HO4.out HSUB.out HNE.out (by have := HSZ0.out; omega) hset
      injection e6 with e61 e62 e63
      subst e61 e63
      have HE : Hid (SpE N (fun i => S i ∧ i < w.heap.size) (.node op name ts) w B b (w.heap.size + 1) p5 zs op (name ++ sx) a5 c5 ts (W4.setCell ⟨p5, 1, none⟩ (.string (name ++ sx)))) :=
        ⟨hbl, by omega, fun i h => h.2, ⟨_, HS4.out.kept hset (fun g e => by have := HS4.out.base; injection e with e; exact ⟨by omega, by omega⟩)⟩, setCell_heap_self HZ4.out _, by rw [hset.block _ (lt_of_block HR4.out) (fun e => hp4 (by injection e))]; exact HR4.out, hf6, hop, hc61, hc62, only_new HG4.out hset (by omega), by simp only [Tree.nodes]; omega, nmLe_node hcat (fun t ht => nmLe_up (by omega) (allL_mem (all_self HNM.out).2 t ht)), hN⟩
      obtain ⟨y0, y1, y2⟩ := cell_of3 HZ4.out
      obtain ⟨g0, g1, g2⟩ := cells_free HZ4.out
      obtain ⟨r0, r1, r2⟩ := cell_of3 HR4.out
      obtain ⟨f0, f1, f2⟩ := cells_free HR4.out
      have hrl := lt_of_block HR4.out
      have hyl := lt_of_block HZ4.out
      clear hset hf6
      go_wp2_with fail
      refine bodyPost_ret (v := .agg #[.int .i64 op, .string (name ++ sx), .slice a5 ts.length c5]) (by simp [results, Tryz.results11, go_sem, r0, r1, r2, hrl, hp4, hp4']) rfl ?_
      exact HE.out.done
    · go_wp2_with fail
      have x2 := (cell_of3 HZ3.out).2.2
      have y2 := (cells_free HZ3.out).2.2
      have HO3d := hidIt (HO3.out.go (Below.refl _ _).drew)
      have HS3d := hidIt (HS3.out.grow (only_of_below (Below.refl _ _).drew none))
      have hbW : b < W3.heap.size := HS3.out.lt
      have hW0 : W0.heap.size ≤ W3.heap.size := by omega
      have HOB := hidIt (HO3.out.block)
      have HOW : Hid (∀ i, ((S i ∧ i < w.heap.size) ∨ W3.heap.size ≤ i) → (Value.slice a5 ts.length c5).ownBlock ≠ some i) := fun i hi e => by
        have h1 := HOB.out i e
        have h2 := HSZ0.out
        omega
      go_region_law (first
        | ((refine step_append_formG (by rfl) (.tmp 63) (.tmp 66) (by rfl) W0.heap.size (fun i => (S i ∧ i < w.heap.size) ∨ W3.heap.size ≤ i) (.slice a5 ts.length c5) ts (by rfl) (((HO3d.out.kept hg4 (fun g e => by injection e with e; subst e; exact ⟨fun e2 => by have := (HOB.out _ e2).1; omega, fun h => HSB.out h.1⟩)).go (Grows.alloc _ _)).mono (fun i h => .inl h)) HOW.out _ 1 (by rfl) (heap_alloc_new W4 _) t2 ((hf2.mono (fun i _ hi => .inr hi)).go (Grows.alloc _ _)) (by omega) (by have h1 : W3.heap.size ≤ W4.heap.size := hg4.size; simp; omega) ?_); intro a6 c6 W5 hown5 hg5 hbl5; have hz5 : W5.heap[p5]? = some (.cells #[.int .i64 op, .string name, .slice a5 ts.length c5] 24 (0, 0)) := (hg5.block p5 (lt_of_block (blk_kept hz4 (Grows.alloc _ _))) (fun e => HNE.out e.symm)).trans (blk_kept hz4 (Grows.alloc _ _)); have x5 := (cell_of3 hz5).2.2; have y5 := (cells_free hz5).2.2; have l5 := lt_of_block hz5)
        | (go_simp; go_at_call 10; refine (sform_any 3 (by omega) (by omega) 1 (by omega) B b zs k3 _ HS3d.out).mono ?_; rintro e W4 ⟨t2, o2, s2, a2, m2, c2, k4, rfl, hgood, hdep, hf2, hs4, hg4⟩; have hz4 : W4.heap[p5]? = some (.cells #[.int .i64 op, .string name, .slice a5 ts.length c5] 24 (0, 0)) := (hg4.block p5 h5p3 (fun e => hp5b (by injection e with e; exact e.symm))).trans HZ3.out; have x3 := (cell_of3 hz4).2.2; have l3 := lt_of_block hz4))
      all_goals
        have hsz4 : W3.heap.size ≤ W4.heap.size := hg4.size
        have hg45 : W4.grownBy (W4.alloc (.cells #[.int .i64 o2, .string s2, .slice a2 m2 c2] 24)) none := only_alloc (only_refl _ _) _
        have hown6 : ∀ g, (Value.slice a5 ts.length c5).ownBlock = some g → W0.heap.size ≤ g ∧ g ≠ b := fun g e => by have := HOB.out g e; omega
        have hs5 := ((hs4.alloc (.cells #[.int .i64 o2, .string s2, .slice a2 m2 c2] 24)).kept hg5 (fun g e => by have h1 := hown6 g e; have h2 := hs4.base; exact ⟨by have := HSZ0.out; omega, h1.2⟩))
        have hgw4 : w.grownBy (W4.alloc (.cells #[.int .i64 o2, .string s2, .slice a2 m2 c2] 24)) (some b) := only_alloc (only_trans (only_trans HG3.out (only_of_below (Below.refl _ _).drew _)) hg4) _
        have hgw5 : w.grownBy W5 (some b) := by
          refine ⟨hg5.os.trans hgw4.os, hg5.tape.trans hgw4.tape, hg5.output.trans hgw4.output, Nat.le_trans hgw4.size hg5.size, fun i hi hne => (hg5.block i (Nat.lt_of_lt_of_le hi hgw4.size) (fun e => ?_)).trans (hgw4.block i hi hne)⟩
          have h1 := hown6 i e.symm
          have h2 := HSZ0.out
          omega
        have hr5 : W5.heap[w.heap.size + 1]? = some (.cells #[.int .i64 0, .string ⟨#[]⟩, .slice none 0 0] 24 (0, 0)) := by
          have h1 : W4.heap[w.heap.size + 1]? = some (.cells #[.int .i64 0, .string ⟨#[]⟩, .slice none 0 0] 24 (0, 0)) := (hg4.block (w.heap.size + 1) (lt_of_block HR3.out) (fun e => by injection e with e; omega)).trans HR3.out
          have h2 := blk_kept h1 (Grows.alloc W4 (.cells #[.int .i64 o2, .string s2, .slice a2 m2 c2] 24))
          exact (hg5.block _ (lt_of_block h2) (fun e => by have h3 := hown6 _ e.symm; have h4 := HSZ0.out; omega)).trans h2
        have hne6 : (Value.slice a6 (ts.length + 1) c6).ownBlock ≠ some p5 := fun e => by
          rcases hbl5 with h | h
          · exact HNE.out (h.symm.trans e)
          · rw [h] at e
            injection e with e
            simp at e
            omega
        have hset : W5.grownBy (W5.setCell ⟨p5, 2, none⟩ (.slice a6 (ts.length + 1) c6)) (some p5) := only_setCell (p := ⟨p5, 2, none⟩) (only_refl W5 (some p5)) (.inl rfl) _
        have hle : (ts ++ [t2]).length = ts.length + 1 := by simp
        obtain ⟨a7, c7, e7, hc71, hc72, hf7⟩ := forms_apart (p4 := w.heap.size + 1) hown5 (fun i hi => by omega) hne6 (by have := HSZ0.out; omega) hset
        rw [hle] at e7
        injection e7 with e71 e72 e73
        subst e71 e73
        have hf8 : FormsIn (W5.setCell ⟨p5, 2, none⟩ (.slice a6 (ts.length + 1) c6)) (fun i => (S i ∧ i < w.heap.size) ∨ w.heap.size + 1 < i) a6 (ts ++ [t2]) := hf7.mono fun i _ hi => by
          rcases hi with (h | h) | h
          · exact .inl h
          · exact .inr (by omega)
          · exact .inr h
        have hn2 : t2.nodes ≤ 4 := gen_nodes t2 1 hgood hdep
        have HE : Hid (SpE N (fun i => S i ∧ i < w.heap.size) (.node op name ts) w B b (w.heap.size + 1) p5 zs op name a6 c6 (ts ++ [t2]) (W5.setCell ⟨p5, 2, none⟩ (.slice a6 (ts.length + 1) c6))) :=
          ⟨hbl, by omega, fun i h => h.2, ⟨_, hs5.kept hset (fun g' e => by have := hs5.base; injection e with e; exact ⟨by omega, by omega⟩)⟩, by rw [hle]; exact setCell_heap_self hz5 _, by rw [hset.block _ (lt_of_block hr5) (fun e => hp4 (by injection e))]; exact hr5, hf8, hop, hc71, hc72, only_new hgw5 hset (by omega), by simp only [Tree.nodes, nodesL_append, nodesL]; omega, nmLe_node (by have := of_decide_eq_true (all_self HNM.out).1; exact Nat.le_trans this (by omega)) (fun t ht => by
            rcases List.mem_append.1 ht with h | h
            · exact nmLe_up (by omega) (allL_mem (all_self HNM.out).2 t h)
            · rw [List.mem_singleton.1 h]
              exact nmLe_gen (by omega) hgood), hN⟩
        obtain ⟨q0, q1, q2⟩ := cell_of3 hz5
        obtain ⟨g0, g1, g2⟩ := cells_free hz5
        obtain ⟨r0, r1, r2⟩ := cell_of3 hr5
        obtain ⟨f0, f1, f2⟩ := cells_free hr5
        have hrl := lt_of_block hr5
        clear hset hf7 hf8 hz5 hr5 hgw5 hgw4 hs5 hg45 hown5 hg5 hbl5 hz4 hs4 hg4 hf2 x2 y2
        go_wp2_with fail
        refine bodyPost_ret (v := .agg #[.int .i64 op, .string name, .slice a6 (ts.length + 1) c6]) (by simp [results, Tryz.results11, go_sem, r0, r1, r2, hrl, hp4, hp4']) rfl ?_
        have h9 := HE.out.done
        rw [hle] at h9
        exact h9
    · have hset : W3.grownBy W3 (some p5) := only_refl W3 (some p5)
      obtain ⟨a6, c6, e6, hc61, hc62, hf6⟩ := forms_apart (p4 := w.heap.size + 1) HO3.out HSUB.out HNE.out (by have := HSZ0.out; omega) hset
      injection e6 with e61 e62 e63
      subst e61 e63
      have HE : Hid (SpE N (fun i => S i ∧ i < w.heap.size) (.node op name ts) w B b (w.heap.size + 1) p5 zs op name a5 c5 ts W3) :=
        ⟨hbl, by omega, fun i h => h.2, ⟨_, HS3.out⟩, HZ3.out, HR3.out, hf6, hop, hc61, hc62, HG3.out, by simp only [Tree.nodes]; omega, nmLe_node (by have := of_decide_eq_true (all_self HNM.out).1; exact Nat.le_trans this (by omega)) (fun t ht => nmLe_up (by omega) (allL_mem (all_self HNM.out).2 t ht)), hN⟩
      obtain ⟨y0, y1, y2⟩ := cell_of3 HZ3.out
      obtain ⟨r0, r1, r2⟩ := cell_of3 HR3.out
      obtain ⟨f0, f1, f2⟩ := cells_free HR3.out
      have hrl := lt_of_block HR3.out
      have hyl := lt_of_block HZ3.out
      clear hset hf6
      go_wp2_with fail
      refine bodyPost_ret (v := .agg #[.int .i64 op, .string name, .slice a5 ts.length c5]) (by simp [results, Tryz.results11, go_sem, r0, r1, r2, hrl, hp4, hp4']) rfl ?_
      exact HE.out.done
    · have hz4 : True := trivial
      have hset : W3.grownBy (W3.setCell ⟨p5, 1, none⟩ (.string ⟨#[]⟩)) (some p5) := only_setCell (p := ⟨p5, 1, none⟩) (only_refl W3 (some p5)) (.inl rfl) _
      obtain ⟨a6, c6, e6, hc61, hc62, hf6⟩ := forms_apart (p4 := w.heap.size + 1) HO3.out HSUB.out HNE.out (by have := HSZ0.out; omega) hset
      injection e6 with e61 e62 e63
      subst e61 e63
      have HE : Hid (SpE N (fun i => S i ∧ i < w.heap.size) (.node op name ts) w B b (w.heap.size + 1) p5 zs op ⟨#[]⟩ a5 c5 ts (W3.setCell ⟨p5, 1, none⟩ (.string ⟨#[]⟩))) :=
        ⟨hbl, by omega, fun i h => h.2, ⟨_, HS3.out.kept hset (fun g e => by have := HS3.out.base; injection e with e; exact ⟨by omega, by omega⟩)⟩, setCell_heap_self HZ3.out _, by rw [hset.block _ (lt_of_block HR3.out) (fun e => hp4 (by injection e))]; exact HR3.out, hf6, hop, hc61, hc62, only_new HG3.out hset (by omega), by simp only [Tree.nodes]; omega, nmLe_node (Nat.zero_le _) (fun t ht => nmLe_up (by omega) (allL_mem (all_self HNM.out).2 t ht)), hN⟩
      obtain ⟨y0, y1, y2⟩ := cell_of3 HZ3.out
      obtain ⟨g0, g1, g2⟩ := cells_free HZ3.out
      obtain ⟨r0, r1, r2⟩ := cell_of3 HR3.out
      obtain ⟨f0, f1, f2⟩ := cells_free HR3.out
      have hrl := lt_of_block HR3.out
      have hyl := lt_of_block HZ3.out
      clear hset hf6
      go_wp2_with fail
      refine bodyPost_ret (v := .agg #[.int .i64 op, .string ⟨#[]⟩, .slice a5 ts.length c5]) (by simp [results, Tryz.results11, go_sem, r0, r1, r2, hrl, hp4, hp4']) rfl ?_
      exact HE.out.done
end Go.Proofs.YtilkpjcbmllgmaaGreatDoor

namespace Go.Proofs.YtilkpjcbmllgmaaGreatDoor
set_option linter.unusedVariables false
set_option linter.unusedSimpArgs false
open Go Go.RowKit

/-- Names of built formulas are short. -/
theorem nodeG_short {n : Nat} {t : Tree} (h : nodeG n t = true) : nmLe 12 t = true := by
  unfold nmLe
  rw [decide_eq_true_eq]
  by_cases ho : t.op = 3
  · obtain ⟨m, -, e⟩ := nodeG_atom h ho
    rw [e]
    exact Nat.le_trans (Nat.le_of_eq rfl) (by omega : 1 ≤ 12)
  · have := nodeG_name h
    unfold nameB at this
    rw [if_neg ho] at this
    have : t.name.size = 0 := by simpa using this
    omega
theorem nmLe_all {t : Tree} {n N : Nat} (h : t.all (nodeG n) = true) (hN : 12 ≤ N) : t.all (nmLe N) = true := nmLe_up hN (all_imp (fun t => nodeG_short) t h)

/-- A formula outside block b, not large. -/
def isF (b M N : Nat) : Value → World → Prop := fun v w => ∃ (T : Tree) (o : Int) (s : ByteArray) (a : Option Addr) (m c : Nat), v = .agg #[.int .i64 o, .string s, .slice a m c] ∧ T.nodes ≤ M ∧ T.all (nmLe N) = true ∧ FormIn w (fun i => i ≠ b) (.agg #[.int .i64 o, .string s, .slice a m c]) T

theorem FormIn.keptB {w w' : World} {b : Nat} {v : Value} {t : Tree} (h : FormIn w (fun i => i ≠ b) v t) (hg : w.grownBy w' (some b)) : FormIn w' (fun i => i ≠ b) v t := h.kept fun i hi hl => hg.block i hl (fun e => hi (by injection e))
theorem isF_kept {b M N : Nat} {v : Value} {w w' : World} (hg : w.grownBy w' (some b)) (h : isF b M N v w) : isF b M N v w' := by
  obtain ⟨T, o, s, a, m, c, h1, h2, h3, h4⟩ := h
  exact ⟨T, o, s, a, m, c, h1, h2, h3, h4.keptB hg⟩
theorem spoilt_rel {B b N M : Nat} {zs : List Int} (hN12 : 12 ≤ N) (hN : N ≤ 1000) (hM : M ≤ 1000) {W w : World} {v : Value} (hC : W.grownBy w (some b) ∧ ∃ q, SrcAt w B b zs q) (hv : isF b M N v w) :
    Calls Tryz.prog 11 #[.pointer (some ⟨b, 0, none⟩), v] w fun e w'' => ∃ u, e = .returned u ∧ (W.grownBy w'' (some b) ∧ ∃ q, SrcAt w'' B b zs q) ∧ w.grownBy w'' (some b) ∧ isF b (M + 20) (N + 1) u w'' := by
  obtain ⟨hC1, q, hq⟩ := hC
  obtain ⟨T, o, s, a, m, c, rfl, h2, h3, h4⟩ := hv
  have hbl := hq.lt
  refine (spoilt_any N hN12 hN T (by omega) h3 B b zs q (fun i => i ≠ b) _ w hq (fun h => h rfl) h4).mono ?_
  rintro e w'' ⟨T', o', s', a', m', c', q', rfl, g1, g2, g3, g4, g5⟩
  exact ⟨_, rfl, ⟨only_trans hC1 g5, _, g4⟩, g5, T', o', s', a', m', c', rfl, by omega, g2, g3.mono fun i _ hi => by
    rcases hi with hi | hi
    · exact hi.1
    · omega⟩


/-- A row of formulas outside block b. -/
def RowFn (n b g : Nat) (w : World) : Prop := ∀ k, k < n → ∃ (T : Tree) (o : Int) (s : ByteArray) (a : Option Addr) (m c : Nat), w.cell? ⟨g, k * 3, none⟩ = some (.int .i64 o) ∧ w.cell? ⟨g, k * 3 + 1, none⟩ = some (.string s) ∧ w.cell? ⟨g, k * 3 + 2, none⟩ = some (.slice a m c) ∧
  T.nodes ≤ 1000 ∧ FormIn w (fun i => i ≠ b) (.agg #[.int .i64 o, .string s, .slice a m c]) T
def isRowFn (n b : Nat) : Value → World → Prop := fun v w => ∃ g : Nat, v = .slice (some ⟨g, 0, none⟩) n n ∧ g ≠ b ∧ g < w.heap.size ∧ RowFn n b g w
theorem isRowFn_kept {n b : Nat} {v : Value} {w w' : World} (hg : w.grownBy w' (some b)) (h : isRowFn n b v w) : isRowFn n b v w' := by
  obtain ⟨g, h1, h2, h3, h4⟩ := h
  refine ⟨g, h1, h2, Nat.lt_of_lt_of_le h3 hg.size, fun k hk => ?_⟩
  obtain ⟨T, o, s, a, m, c, c0, c1, c2, hn, hf⟩ := h4 k hk
  have e := hg.block g h3 (fun e => h2 (by injection e))
  exact ⟨T, o, s, a, m, c, (World.cell?_of_block (a := ⟨g, _, none⟩) e).trans c0, (World.cell?_of_block (a := ⟨g, _, none⟩) e).trans c1, (World.cell?_of_block (a := ⟨g, _, none⟩) e).trans c2, hn, hf.keptB hg⟩

theorem row_three {b : Nat} {w : World} {T0 T1 T2 : Tree} {o0 o1 o2 : Int} {s0 s1 s2 : ByteArray} {a0 a1 a2 : Option Addr} {m0 m1 m2 c0 c1 c2 : Nat}
    (n0 : T0.nodes ≤ 1000) (n1 : T1.nodes ≤ 1000) (n2 : T2.nodes ≤ 1000)
    (f0 : FormIn w (fun i => i ≠ b) (.agg #[.int .i64 o0, .string s0, .slice a0 m0 c0]) T0) (f1 : FormIn w (fun i => i ≠ b) (.agg #[.int .i64 o1, .string s1, .slice a1 m1 c1]) T1)
    (f2 : FormIn w (fun i => i ≠ b) (.agg #[.int .i64 o2, .string s2, .slice a2 m2 c2]) T2) (hb : b < w.heap.size) :
    isRowFn 3 b (.slice (some ⟨w.heap.size, 0, none⟩) 3 3) (w.alloc (.cells #[.int .i64 o0, .string s0, .slice a0 m0 c0, .int .i64 o1, .string s1, .slice a1 m1 c1, .int .i64 o2, .string s2, .slice a2 m2 c2] 24)) := by
  have hg : w.grownBy (w.alloc (.cells #[.int .i64 o0, .string s0, .slice a0 m0 c0, .int .i64 o1, .string s1, .slice a1 m1 c1, .int .i64 o2, .string s2, .slice a2 m2 c2] 24)) (some b) := only_alloc (only_refl _ _) _
  have hK := heap_alloc_new w (.cells #[.int .i64 o0, .string s0, .slice a0 m0 c0, .int .i64 o1, .string s1, .slice a1 m1 c1, .int .i64 o2, .string s2, .slice a2 m2 c2] 24)
  have hl := lt_of_block hK
  generalize (w.alloc (.cells #[.int .i64 o0, .string s0, .slice a0 m0 c0, .int .i64 o1, .string s1, .slice a1 m1 c1, .int .i64 o2, .string s2, .slice a2 m2 c2] 24)) = w' at *
  refine ⟨_, rfl, by omega, hl, fun k hk => ?_⟩
  rcases (by omega : k = 0 ∨ k = 1 ∨ k = 2) with rfl | rfl | rfl
  · exact ⟨T0, o0, s0, a0, m0, c0, by simp [World.cell?, hK], by simp [World.cell?, hK], by simp [World.cell?, hK], n0, f0.keptB hg⟩
  · exact ⟨T1, o1, s1, a1, m1, c1, by simp [World.cell?, hK], by simp [World.cell?, hK], by simp [World.cell?, hK], n1, f1.keptB hg⟩
  · exact ⟨T2, o2, s2, a2, m2, c2, by simp [World.cell?, hK], by simp [World.cell?, hK], by simp [World.cell?, hK], n2, f2.keptB hg⟩

theorem row_four {b : Nat} {w : World} {T0 T1 T2 T3 : Tree} {o0 o1 o2 o3 : Int} {s0 s1 s2 s3 : ByteArray} {a0 a1 a2 a3 : Option Addr} {m0 m1 m2 m3 c0 c1 c2 c3 : Nat}
    (n0 : T0.nodes ≤ 1000) (n1 : T1.nodes ≤ 1000) (n2 : T2.nodes ≤ 1000) (n3 : T3.nodes ≤ 1000)
    (f0 : FormIn w (fun i => i ≠ b) (.agg #[.int .i64 o0, .string s0, .slice a0 m0 c0]) T0) (f1 : FormIn w (fun i => i ≠ b) (.agg #[.int .i64 o1, .string s1, .slice a1 m1 c1]) T1)
    (f2 : FormIn w (fun i => i ≠ b) (.agg #[.int .i64 o2, .string s2, .slice a2 m2 c2]) T2) (f3 : FormIn w (fun i => i ≠ b) (.agg #[.int .i64 o3, .string s3, .slice a3 m3 c3]) T3) (hb : b < w.heap.size) :
    isRowFn 4 b (.slice (some ⟨w.heap.size, 0, none⟩) 4 4) (w.alloc (.cells #[.int .i64 o0, .string s0, .slice a0 m0 c0, .int .i64 o1, .string s1, .slice a1 m1 c1, .int .i64 o2, .string s2, .slice a2 m2 c2, .int .i64 o3, .string s3, .slice a3 m3 c3] 24)) := by
  have hg : w.grownBy (w.alloc (.cells #[.int .i64 o0, .string s0, .slice a0 m0 c0, .int .i64 o1, .string s1, .slice a1 m1 c1, .int .i64 o2, .string s2, .slice a2 m2 c2, .int .i64 o3, .string s3, .slice a3 m3 c3] 24)) (some b) := only_alloc (only_refl _ _) _
  have hK := heap_alloc_new w (.cells #[.int .i64 o0, .string s0, .slice a0 m0 c0, .int .i64 o1, .string s1, .slice a1 m1 c1, .int .i64 o2, .string s2, .slice a2 m2 c2, .int .i64 o3, .string s3, .slice a3 m3 c3] 24)
  have hl := lt_of_block hK
  generalize (w.alloc (.cells #[.int .i64 o0, .string s0, .slice a0 m0 c0, .int .i64 o1, .string s1, .slice a1 m1 c1, .int .i64 o2, .string s2, .slice a2 m2 c2, .int .i64 o3, .string s3, .slice a3 m3 c3] 24)) = w' at *
  refine ⟨_, rfl, by omega, hl, fun k hk => ?_⟩
  rcases (by omega : k = 0 ∨ k = 1 ∨ k = 2 ∨ k = 3) with rfl | rfl | rfl | rfl
  · exact ⟨T0, o0, s0, a0, m0, c0, by simp [World.cell?, hK], by simp [World.cell?, hK], by simp [World.cell?, hK], n0, f0.keptB hg⟩
  · exact ⟨T1, o1, s1, a1, m1, c1, by simp [World.cell?, hK], by simp [World.cell?, hK], by simp [World.cell?, hK], n1, f1.keptB hg⟩
  · exact ⟨T2, o2, s2, a2, m2, c2, by simp [World.cell?, hK], by simp [World.cell?, hK], by simp [World.cell?, hK], n2, f2.keptB hg⟩
  · exact ⟨T3, o3, s3, a3, m3, c3, by simp [World.cell?, hK], by simp [World.cell?, hK], by simp [World.cell?, hK], n3, f3.keptB hg⟩
end Go.Proofs.YtilkpjcbmllgmaaGreatDoor

namespace Go.Proofs.YtilkpjcbmllgmaaGreatDoor
set_option linter.unusedVariables false
set_option linter.unusedSimpArgs false
open Go Go.RowKit

/-- Is the name short? -/
def shortB (t : Tree) : Bool := decide (t.name.size ≤ 100)

set_option maxRecDepth 100000 in
set_option maxHeartbeats 1000000 in
theorem knodes_any : ∀ (t : Tree) (m : Nat) (v : Value) (w : World), FormAt w none v t → m ≤ 1000000 →
    Calls Tryz.prog 8 #[v, .int .i64 (m : Int)] w fun e w' => e = .returned (.int .i64 ((min t.nodes (m + 1) : Nat) : Int)) ∧ Below w.heap.size w w' := by
  refine Tree.ind fun op name ts ih m v w hv hm1 => ?_
  obtain ⟨a, cap, b, off, rfl, hop, hname, hlen, hcap, -, -⟩ := hv.form
  have HV := hidIt hv.forms
  simp only [Tree.op_node, Tree.name_node, Tree.args_node] at *
  have HN : Hid ((Tree.node op name ts).nodes = 1 + nodesL ts) := by show _ = _; simp [Tree.nodes]
  have IH := hidIt ih
  unfold maxLen at hcap
  clear ih hv
  go_enter Tryz.func8, Tryz.ntmps8
  go_wp2_with fail
  have hb0 : Below w.heap.size w (w.alloc (.cells #[.int .i64 op, .string name, .slice a ts.length cap] 24)) := (Below.refl _ _).alloc (Nat.le_refl _) _
  have HB0 := hidIt hb0
  have HX : Hid ((w.alloc (.cells #[.int .i64 op, .string name, .slice a ts.length cap] 24)).heap[w.heap.size]? = some (.cells #[.int .i64 op, .string name, .slice a ts.length cap] 24 (0, 0))) := heap_alloc_new w _
  clear hb0
  generalize (w.alloc (.cells #[.int .i64 op, .string name, .slice a ts.length cap] 24)) = W at *
  go_loopw [5, 6, 10] (fun t _ i wr => ∃ k : Nat, k ≤ ts.length ∧ i = .int .i64 k ∧ t = .int .i64 ((min (1 + nodesL (ts.take k)) (m + 1) : Nat) : Int) ∧ Hid (Below W.heap.size W wr)) (fun _ _ i _ => ts.length - (intOf i).toNat)
  case atStart => exact ⟨0, Nat.zero_le _, rfl, by simp [nodesL], Below.refl _ _⟩
  case round =>
    obtain ⟨k, hk, rfl, rfl, hbel⟩ := hrel
    have HBw := hidIt (HB0.out.trans (hbel.out.mono HB0.out.size))
    have kX := blk_kept HX.out hbel.out
    obtain ⟨x0, x1, x2⟩ := cell_of3 kX
    have hlx := lt_of_block kX
    clear kX
    by_cases hlt : k < ts.length
    · obtain ⟨b', off', a', c', rfl, c0, c1, c2, hf⟩ := (HV.out.go HBw.out).at k hlt
      have HF := hidIt hf
      have HS := hidIt (nodesL_take ts k hlt)
      have HS2 := hidIt (nodesL_take_le ts k)
      have hm : ts[k] ∈ ts := List.getElem_mem hlt
      clear hf
      generalize ts[k] = t at *
      have hlt0 : (k : Int) < (ts.length : Int) := by omega
      have hk0 : (0 : Int) ≤ (k : Int) := by omega
      by_cases hbig : m < 1 + nodesL (ts.take k)
      · have hc : min (1 + nodesL (ts.take k)) (m + 1) = m + 1 := by omega
        have HE : Hid (min (Tree.node op name ts).nodes (m + 1) = m + 1) := by show _ = _; rw [HN.out]; have := HS2.out; omega
        rw [hc]
        have hgt : (m : Int) < ((m + 1 : Nat) : Int) := by omega
        clear hc hbig
        go_wp2_with fail
        go_ret
        exact ⟨ret_int (by rw [HE.out]), HBw.out⟩
      · have hc : min (1 + nodesL (ts.take k)) (m + 1) = 1 + nodesL (ts.take k) := by omega
        rw [hc]
        obtain ⟨z, hz⟩ : ∃ z, z = 1 + nodesL (ts.take k) := ⟨_, rfl⟩
        have HZ := hidIt hz
        rw [← hz]
        have hzm : z ≤ m := by omega
        have hgt : decide ((m : Int) < (z : Int)) = false := by simp; omega
        have hsub : wrap64 ((m : Int) - (z : Int)) = (m : Int) - (z : Int) := by unfold wrap64; omega
        have HIH := hidIt (fun v w h => IH.out t hm (m - z) v w h (by omega))
        rw [show ((m - z : Nat) : Int) = (m : Int) - (z : Int) by omega] at HIH
        have HST : Hid (min (1 + nodesL (ts.take (k + 1))) (m + 1) = z + min t.nodes (m - z + 1)) := by show _ = _; rw [HS.out, HZ.out]; omega
        have hle : min t.nodes (m - z + 1) ≤ 1000001 := by omega
        generalize min t.nodes (m - z + 1) = y at *
        clear hc hbig hz
        go_wp2_with fail
        refine (HIH.out _ _ HF.out).mono ?_
        rintro e w5 ⟨rfl, h5⟩
        have HB5 : Hid (Below W.heap.size W w5) := hbel.out.trans (Below.mono h5 hbel.out.size)
        clear h5
        go_wp2_with fail
        go_roundw
        case rel => exact ⟨k + 1, by omega, by go_num, by rw [HST.out]; go_num, HB5.out⟩
        case measure => simp [intOf]; omega
    · go_wp2_with fail
      go_ret
      exact ⟨ret_int (by rw [HN.out, List.take_of_length_le (by omega)]), HBw.out⟩

set_option maxRecDepth 100000 in
set_option maxHeartbeats 1000000 in
theorem klevels_any : ∀ (t : Tree) (m : Nat) (q : Int) (v : Value) (w : World), FormAt w none v t → m ≤ 1000000 → q + 1 = (m : Int) →
    Calls Tryz.prog 45 #[v, .int .i64 q] w fun e w' => e = .returned (.int .i64 ((min t.depth m : Nat) : Int)) ∧ Below w.heap.size w w' := by
  refine Tree.ind fun op name ts ih m q v w hv hm1 hq => ?_
  obtain ⟨a, cap, b, off, rfl, hop, hname, hlen, hcap, -, -⟩ := hv.form
  have HV := hidIt hv.forms
  simp only [Tree.op_node, Tree.name_node, Tree.args_node] at *
  have HD : Hid ((Tree.node op name ts).depth = depthL ts) := by show _ = _; simp [Tree.depth]
  have IH := hidIt ih
  unfold maxLen at hcap
  clear ih hv
  by_cases hm0 : m = 0
  case pos =>
    have hq0 : q < 0 := by omega
    have HE : Hid (min (Tree.node op name ts).depth m = 0) := by show _ = _; rw [hm0]; simp
    go_enter Tryz.func45, Tryz.ntmps45
    go_wp2_with fail
    go_ret
    exact ⟨ret_int (by rw [HE.out]; rfl), (Below.refl _ _).alloc (Nat.le_refl _) _⟩
  case neg =>
  have hq0 : decide (q < 0) = false := by simp; omega
  have hqs : wrap64 (q - 1) = q - 1 := by unfold wrap64; omega
  obtain ⟨m', rfl⟩ : ∃ m', m = m' + 1 := ⟨m - 1, by omega⟩
  have hq1 : q - 1 + 1 = (m' : Int) := by omega
  have hql : q ≤ 1000000 := by omega
  clear hq hm0
  go_enter Tryz.func45, Tryz.ntmps45
  go_wp2_with fail
  have hb0 : Below w.heap.size w (w.alloc (.cells #[.int .i64 op, .string name, .slice a ts.length cap] 24)) := (Below.refl _ _).alloc (Nat.le_refl _) _
  have HB0 := hidIt hb0
  have HX : Hid ((w.alloc (.cells #[.int .i64 op, .string name, .slice a ts.length cap] 24)).heap[w.heap.size]? = some (.cells #[.int .i64 op, .string name, .slice a ts.length cap] 24 (0, 0))) := heap_alloc_new w _
  clear hb0
  generalize (w.alloc (.cells #[.int .i64 op, .string name, .slice a ts.length cap] 24)) = W at *
  go_loopw [5, 6, 12] (fun t _ i wr => ∃ k : Nat, k ≤ ts.length ∧ i = .int .i64 k ∧ t = .int .i64 ((min (depthL (ts.take k)) (m' + 1) : Nat) : Int) ∧ Hid (Below W.heap.size W wr)) (fun _ _ i _ => ts.length - (intOf i).toNat)
  case atStart => exact ⟨0, Nat.zero_le _, rfl, by simp [depthL], Below.refl _ _⟩
  case round =>
    obtain ⟨k, hk, rfl, rfl, hbel⟩ := hrel
    have HBw := hidIt (HB0.out.trans (hbel.out.mono HB0.out.size))
    have kX := blk_kept HX.out hbel.out
    obtain ⟨x0, x1, x2⟩ := cell_of3 kX
    have hlx := lt_of_block kX
    clear kX
    by_cases hlt : k < ts.length
    · obtain ⟨b', off', a', c', rfl, c0, c1, c2, hf⟩ := (HV.out.go HBw.out).at k hlt
      have HF := hidIt hf
      have HS := hidIt (depthL_take ts k hlt)
      have hm : ts[k] ∈ ts := List.getElem_mem hlt
      clear hf
      generalize ts[k] = t at *
      have hlt0 : (k : Int) < (ts.length : Int) := by omega
      have hk0 : (0 : Int) ≤ (k : Int) := by omega
      have HIH := hidIt (fun v w h => IH.out t hm m' (q - 1) v w h (by omega) hq1)
      obtain ⟨y, hy⟩ : ∃ y, y = min t.depth m' := ⟨_, rfl⟩
      obtain ⟨z, hz⟩ : ∃ z, z = min (depthL (ts.take k)) (m' + 1) := ⟨_, rfl⟩
      have HST : Hid (min (depthL (ts.take (k + 1))) (m' + 1) = max z (1 + y)) := by show _ = _; rw [HS.out, hz, hy]; omega
      rw [← hy] at HIH
      rw [← hz]
      have hyl : y ≤ 1000000 := by omega
      have hzl : z ≤ 1000001 := by omega
      clear hy hz
      go_wp2_with fail
      refine (HIH.out _ _ HF.out).mono ?_
      rintro e w5 ⟨rfl, h5⟩
      have HB5 : Hid (Below W.heap.size W w5) := hbel.out.trans (Below.mono h5 hbel.out.size)
      clear h5
      go_wp2_with fail
      go_roundw
      case rel => exact ⟨k + 1, by omega, by go_num, by rw [HST.out]; go_num, HB5.out⟩
      case measure => simp [intOf]; omega
    · go_wp2_with fail
      go_ret
      exact ⟨ret_int (by rw [HD.out, List.take_of_length_le (by omega)]), HBw.out⟩

set_option maxRecDepth 100000 in
set_option maxHeartbeats 1000000 in
theorem kshort_any : ∀ (t : Tree) (v : Value) (w : World), FormAt w none v t →
    Calls Tryz.prog 46 #[v] w fun e w' => e = .returned (.bool (t.all shortB)) ∧ Below w.heap.size w w' := by
  refine Tree.ind fun op name ts ih v w hv => ?_
  obtain ⟨a, cap, b, off, rfl, hop, hname, hlen, hcap, -, -⟩ := hv.form
  have HV := hidIt hv.forms
  simp only [Tree.op_node, Tree.name_node, Tree.args_node] at *
  have IH := hidIt ih
  unfold maxLen at hcap
  clear ih hv
  by_cases hs : 100 < name.size
  case pos =>
    have hs' : (100 : Int) < (name.size : Int) := by omega
    have HE : Hid ((Tree.node op name ts).all shortB = false) := by
      show _ = _
      rw [Tree.all, shortB, Tree.name_node, decide_eq_false (by omega), Bool.false_and]
    go_enter Tryz.func46, Tryz.ntmps46
    go_wp2_with fail
    go_ret
    exact ⟨ret_bool HE.out.symm, (Below.refl _ _).alloc (Nat.le_refl _) _⟩
  case neg =>
  have hs' : decide ((100 : Int) < (name.size : Int)) = false := by simp; omega
  have HE : Hid ((Tree.node op name ts).all shortB = allL shortB ts) := by
    show _ = _
    rw [Tree.all, shortB, Tree.name_node, decide_eq_true (by omega), Bool.true_and]
  clear hs
  go_enter Tryz.func46, Tryz.ntmps46
  go_wp2_with fail
  have hb0 : Below w.heap.size w (w.alloc (.cells #[.int .i64 op, .string name, .slice a ts.length cap] 24)) := (Below.refl _ _).alloc (Nat.le_refl _) _
  have HB0 := hidIt hb0
  have HX : Hid ((w.alloc (.cells #[.int .i64 op, .string name, .slice a ts.length cap] 24)).heap[w.heap.size]? = some (.cells #[.int .i64 op, .string name, .slice a ts.length cap] 24 (0, 0))) := heap_alloc_new w _
  clear hb0
  generalize (w.alloc (.cells #[.int .i64 op, .string name, .slice a ts.length cap] 24)) = W at *
  go_loopw [3, 11] (fun _ i wr => ∃ k : Nat, k ≤ ts.length ∧ i = .int .i64 k ∧ Hid (allL shortB (ts.take k) = true) ∧ Hid (Below W.heap.size W wr)) (fun _ i _ => ts.length - (intOf i).toNat)
  case atStart => exact ⟨0, Nat.zero_le _, rfl, by simp [Hid, allL], Below.refl _ _⟩
  case round =>
    obtain ⟨k, hk, rfl, hall, hbel⟩ := hrel
    have HBw := hidIt (HB0.out.trans (hbel.out.mono HB0.out.size))
    have kX := blk_kept HX.out hbel.out
    obtain ⟨x0, x1, x2⟩ := cell_of3 kX
    have hlx := lt_of_block kX
    clear kX
    by_cases hlt : k < ts.length
    · obtain ⟨b', off', a', c', rfl, c0, c1, c2, hf⟩ := (HV.out.go HBw.out).at k hlt
      have HF := hidIt hf
      have HS := hidIt (allL_take shortB ts k hlt)
      have HL : Hid (ts[k].all shortB = false → allL shortB ts = false) := fun h => by
        cases hh : allL shortB ts
        · rfl
        · have := allL_mem hh _ (List.getElem_mem hlt); rw [h] at this; cases this
      have hm : ts[k] ∈ ts := List.getElem_mem hlt
      clear hf
      generalize ts[k] = t at *
      have HIH := hidIt (fun v w h => IH.out t hm v w h)
      obtain ⟨r, hr⟩ : ∃ r, t.all shortB = r := ⟨_, rfl⟩
      rw [hr] at HIH HS HL
      clear hr
      have hlt0 : (k : Int) < (ts.length : Int) := by omega
      have hk0 : (0 : Int) ≤ (k : Int) := by omega
      have K0 := fun y => Ext.cell c0 y
      have K1 := fun y => Ext.cell c1 y
      have K2 := fun y => Ext.cell c2 y
      have M1 := fun y => Ext.cell x2 y
      clear K0 K1 K2 M1
      cases r
      · go_wp2_with fail
        refine (HIH.out _ _ HF.out).mono ?_
        rintro e w5 ⟨rfl, h5⟩
        have HB5 : Hid (Below w.heap.size w w5) := HBw.out.trans (Below.mono h5 HBw.out.size)
        clear h5
        go_wp2_with fail
        go_ret
        exact ⟨ret_bool (by rw [HE.out, HL.out trivial]), HB5.out⟩
      · go_wp2_with fail
        refine (HIH.out _ _ HF.out).mono ?_
        rintro e w5 ⟨rfl, h5⟩
        have HB5 : Hid (Below W.heap.size W w5) := hbel.out.trans (Below.mono h5 hbel.out.size)
        clear h5
        go_wp2_with fail
        go_roundw
        case rel => exact ⟨k + 1, by omega, by go_num, by show _ = _; rw [HS.out, hall.out]; rfl, HB5.out⟩
        case measure => simp [intOf]; omega
    · go_wp2_with fail
      go_ret
      have hall' := hall.out
      rw [List.take_of_length_le (by omega)] at hall'
      exact ⟨ret_bool (by rw [HE.out, hall']), HBw.out⟩

set_option maxRecDepth 100000 in
set_option maxHeartbeats 1000000 in
theorem ksmall_any (t : Tree) (v : Value) (w : World) (h : FormAt w none v t) :
    Calls Tryz.prog 7 #[v] w fun e w' => e = .returned (.bool (decide (t.nodes ≤ 800) && decide (t.depth ≤ 30) && t.all shortB)) ∧ Below w.heap.size w w' := by
  obtain ⟨a, cap, b, off, rfl, hop, hname, hlen, hcap, -, -⟩ := h.form
  have HB0 : Hid (Below w.heap.size w (w.alloc (.cells #[.int .i64 t.op, .string t.name, .slice a t.args.length cap] 24))) := (Below.refl _ _).alloc (Nat.le_refl _) _
  have HK0 := hidIt (heap_alloc_new w (.cells #[.int .i64 t.op, .string t.name, .slice a t.args.length cap] 24))
  have H := hidIt (h.go HB0.out)
  have hN := hidIt (fun v w h => knodes_any t 800 v w h (by omega))
  have hL := hidIt (fun v w h => klevels_any t 31 30 v w h (by omega) (by omega))
  have hS := hidIt (kshort_any t)
  clear h
  obtain ⟨x, hx⟩ : ∃ x, x = min t.nodes (800 + 1) := ⟨_, rfl⟩
  obtain ⟨y, hy⟩ : ∃ y, y = min t.depth 31 := ⟨_, rfl⟩
  obtain ⟨z, hz⟩ : ∃ z, z = t.all shortB := ⟨_, rfl⟩
  rw [← hx] at hN
  rw [← hy] at hL
  rw [← hz] at hS
  by_cases h1 : t.nodes ≤ 800
  case neg =>
    have h1' : decide ((x : Int) ≤ 800) = false := by simp; omega
    have HE : Hid ((decide (t.nodes ≤ 800) && decide (t.depth ≤ 30) && t.all shortB) = false) := by show _ = _; rw [decide_eq_false h1]; simp
    clear hx hy hz h1
    go_enter Tryz.func7, Tryz.ntmps7
    go_wp2_with fail
    refine (hN.out _ _ H.out).mono ?_
    rintro e w1 ⟨rfl, hb⟩
    have HB1 := hidIt (HB0.out.trans (Below.mono hb HB0.out.size))
    clear hb
    go_wp2_with fail
    go_ret
    exact ⟨ret_bool HE.out.symm, HB1.out⟩
  case pos =>
  have h1' : (x : Int) ≤ 800 := by omega
  by_cases h2 : t.depth ≤ 30
  case neg =>
    have h2' : decide ((y : Int) ≤ 30) = false := by simp; omega
    have HE : Hid ((decide (t.nodes ≤ 800) && decide (t.depth ≤ 30) && t.all shortB) = false) := by show _ = _; rw [decide_eq_false h2]; simp
    clear hx hy hz h2 h1
    go_enter Tryz.func7, Tryz.ntmps7
    go_wp2_with fail
    refine (hN.out _ _ H.out).mono ?_
    rintro e w1 ⟨rfl, hb⟩
    have HB1 := hidIt (HB0.out.trans (Below.mono hb HB0.out.size))
    have HK1 := hidIt (blk_kept HK0.out hb)
    have H1 := hidIt (H.out.go hb)
    clear hb
    obtain ⟨c0, c1, c2⟩ := cell_of3 HK1.out
    have cl := lt_of_block HK1.out
    go_wp2_with fail
    refine (hL.out _ _ H1.out).mono ?_
    rintro e w2 ⟨rfl, hb⟩
    have HB2 := hidIt (HB1.out.trans (Below.mono hb HB1.out.size))
    clear hb c0 c1 c2 cl
    go_wp2_with fail
    go_ret
    exact ⟨ret_bool HE.out.symm, HB2.out⟩
  case pos =>
  have h2' : (y : Int) ≤ 30 := by omega
  have HE : Hid ((decide (t.nodes ≤ 800) && decide (t.depth ≤ 30) && t.all shortB) = z) := by show _ = _; rw [decide_eq_true h1, decide_eq_true h2, hz]; simp
  clear hx hy hz h2 h1
  go_enter Tryz.func7, Tryz.ntmps7
  go_wp2_with fail
  refine (hN.out _ _ H.out).mono ?_
  rintro e w1 ⟨rfl, hb⟩
  have HB1 := hidIt (HB0.out.trans (Below.mono hb HB0.out.size))
  have HK1 := hidIt (blk_kept HK0.out hb)
  have H1 := hidIt (H.out.go hb)
  clear hb
  obtain ⟨c0, c1, c2⟩ := cell_of3 HK1.out
  have cl := lt_of_block HK1.out
  go_wp2_with fail
  refine (hL.out _ _ H1.out).mono ?_
  rintro e w2 ⟨rfl, hb⟩
  have HB2 := hidIt (HB1.out.trans (Below.mono hb HB1.out.size))
  have HK2 := hidIt (blk_kept HK1.out hb)
  have H2 := hidIt (H1.out.go hb)
  clear hb c0 c1 c2 cl
  obtain ⟨c0, c1, c2⟩ := cell_of3 HK2.out
  have cl := lt_of_block HK2.out
  go_wp2_with fail
  refine (hS.out _ _ H2.out).mono ?_
  rintro e w3 ⟨rfl, hb⟩
  have HB3 := hidIt (HB2.out.trans (Below.mono hb HB2.out.size))
  clear hb c0 c1 c2 cl
  go_wp2_with fail
  go_ret
  exact ⟨ret_bool HE.out.symm, HB3.out⟩
end Go.Proofs.YtilkpjcbmllgmaaGreatDoor

namespace Go.Proofs.YtilkpjcbmllgmaaGreatDoor
set_option linter.unusedVariables false
set_option linter.unusedSimpArgs false
open Go Go.RowKit

/-- A list of strings, wherever it lies. -/
def StrsV (w : World) (v : Value) (l : List ByteArray) : Prop := ∃ (a : Option Addr) (c : Nat), v = .slice a l.length c ∧ l.length ≤ c ∧ c ≤ maxLen ∧ ((a = none ∧ c = 0) ∨ ∃ b o, a = some ⟨b, o, none⟩) ∧ StrsIn w (fun _ => True) a l
theorem StrsV.go {w w' : World} {v : Value} {l : List ByteArray} (h : StrsV w v l) (hb : Below w.heap.size w w') : StrsV w' v l := by
  obtain ⟨a, c, h1, h2, h3, h4, h5⟩ := h
  exact ⟨a, c, h1, h2, h3, h4, h5.go hb⟩
theorem OwnS.strsV {w : World} {B : Nat} {v : Value} {l : List ByteArray} (h : OwnS w B v l) : StrsV w v l := by
  rcases h.1.2 with ⟨rfl, h0⟩ | ⟨g, cap, cur, rfl, hB, hg, hnc, hcm, hcs, htake⟩
  · obtain rfl : l = [] := List.eq_nil_of_length_eq_zero h0
    exact ⟨none, 0, rfl, Nat.le_refl _, Nat.zero_le _, .inl ⟨rfl, rfl⟩, StrsIn.nil none⟩
  · exact ⟨_, cap, rfl, hnc, hcm, .inr ⟨g, 0, rfl⟩, OwnS.strs h⟩
theorem StrsV.nil (w : World) : StrsV w (.slice none 0 0) [] := ⟨none, 0, rfl, Nat.le_refl _, Nat.zero_le _, .inl ⟨rfl, rfl⟩, StrsIn.nil none⟩

theorem insS_split (x : ByteArray) : ∀ (xs : List ByteArray) (k : Nat), k ≤ xs.length → (∀ y ∈ xs.take k, y.data.toList < x.data.toList) → insS x xs = xs.take k ++ insS x (xs.drop k)
  | xs, 0, _, _ => rfl
  | [], k + 1, hk, _ => by simp at hk
  | y :: ys, k + 1, hk, h => by
    have h1 : y.data.toList < x.data.toList := h y (by simp)
    rw [insS, if_pos h1, insS_split x ys k (by simpa using hk) fun z hz => h z (by simp [hz])]
    simp
theorem insS_end (x : ByteArray) (xs : List ByteArray) (h : ∀ y ∈ xs.take xs.length, y.data.toList < x.data.toList) : insS x xs = (xs.take xs.length ++ [x]) ++ xs.drop xs.length := by
  rw [insS_split x xs xs.length (Nat.le_refl _) h]
  simp [insS]
theorem insS_same (x : ByteArray) (xs : List ByteArray) (k : Nat) (hk : k < xs.length) (h : ∀ y ∈ xs.take k, y.data.toList < x.data.toList) (he : xs[k] = x) : insS x xs = xs := by
  rw [insS_split x xs k (Nat.le_of_lt hk) h, List.drop_eq_getElem_cons hk, insS, if_neg (by rw [he]; exact List.lt_irrefl _), if_pos he]
  conv => rhs; rw [← List.take_append_drop k xs, List.drop_eq_getElem_cons hk]
theorem insS_at (x : ByteArray) (xs : List ByteArray) (k : Nat) (hk : k < xs.length) (h : ∀ y ∈ xs.take k, y.data.toList < x.data.toList) (h1 : ¬ xs[k].data.toList < x.data.toList) (he : xs[k] ≠ x) :
    insS x xs = (xs.take k ++ [x]) ++ xs.drop k := by
  rw [insS_split x xs k (Nat.le_of_lt hk) h, List.drop_eq_getElem_cons hk, insS, if_neg h1, if_neg he]
  simp

theorem run_append_none_any {w : World} (base : Nat) (t ty e : TypeId) (i : TypeInfo) (size : Nat) (ht : Tryz.prog.underlying t = some (.slice e)) (hi : Tryz.prog.info? e = some i)
    (v : Value) (n : Nat) (xs : List Value) (hown : w.ownsRow base e size v n xs) (c : Nat) : (Builtin.append_ #[t, t] ty #[v, .slice none 0 c]).run Tryz.prog w = .ok v w := by
  rcases hown.2 with ⟨rfl, rfl⟩ | ⟨g, cap, cur, rfl, _, _, hnc, _⟩
  · simp [Builtin.append_, run_underlying ht, sizeOf, typeInfo, hi, Builtin.lenOf, Builtin.firstCells]
  · simp [Builtin.append_, run_underlying ht, sizeOf, typeInfo, hi, Builtin.lenOf, Builtin.firstCells, hnc, storeCells]

/-- append of a list of strings that lies somewhere. -/
theorem run_append_strsV {w : World} (ty : TypeId) (B : Nat) (v : Value) (l : List ByteArray) (hown : OwnS w B v l) (a : Option Addr) (n c : Nat) (m : List ByteArray) (hn : n = m.length) (hs : StrsIn w (fun _ => True) a m)
    (hlen : l.length ≤ 1000001) (hlen2 : m.length ≤ 1000000) (hB : B ≤ w.heap.size) :
    ∃ v' w', (Builtin.append_ #[25, 25] ty #[v, .slice a n c]).run Tryz.prog w = .ok v' w' ∧ OwnS w' B v' (l ++ m) ∧ w.grownBy w' v.ownBlock := by
  obtain ⟨i0, hi, hz0, hz1, hz2⟩ := info_parts infoStr
  subst hn
  cases a with
  | none =>
    obtain rfl : m = [] := by
      cases m with
      | nil => rfl
      | cons x r => obtain ⟨b, off, h1, -⟩ := hs; have := (h1 (by simp)).1; cases this
    refine ⟨v, w, run_append_none_any B 25 ty 9 i0 1 Tryz.underlying25 hi v l.length _ hown.1 c, by rw [List.append_nil]; exact hown, only_refl w _⟩
  | some ad =>
    have hcells : ∀ j u, (m.map Value.string)[j]? = some u → w.cell? (ad.add j) = some u := fun j u hj => by
      rw [List.getElem?_map] at hj
      obtain ⟨s, hs1, rfl⟩ := Option.map_eq_some_iff.1 hj
      obtain ⟨hlt, rfl⟩ := List.getElem?_eq_some_iff.1 hs1
      obtain ⟨b, off, e, hc, -⟩ := hs.at j hlt
      obtain rfl := Option.some.inj e
      have e2 : (⟨b, off, none⟩ : Addr).add j = ⟨b, off + j, none⟩ := by unfold Addr.add; split <;> simp_all
      rw [e2]
      exact hc
    obtain ⟨v', w', hr, h6, h7, -⟩ := run_append_own (P := Tryz.prog) w B 25 ty 9 i0 _ 1 16 Tryz.underlying25 hi hz0 hz1 hz2 rfl (by decide) v l.length _ hown.1 ad m.length c (m.map Value.string) (by simp) hcells (fun u hu => by obtain ⟨t, -, rfl⟩ := List.mem_map.1 hu; rfl) (by unfold maxLen; omega) (by omega) hB
    refine ⟨v', w', hr, ⟨?_, fun t ht => ?_⟩, h7⟩
    · rw [List.map_append, List.length_append]
      exact h6
    · rcases List.mem_append.1 ht with h4 | h4
      · exact hown.2 t h4
      · obtain ⟨j, hj, rfl⟩ := List.mem_iff_getElem.1 h4
        obtain ⟨b, off, e, -, hz⟩ := hs.at j hj
        exact hz

theorem wpList_append_strsV {w : World} {ops : Array Oper} {rest : List Oper} {o : Oper} {a : Act} {Q : Exit → Act → World → Prop} (hgd : o.guard = none) (s x : Operand)
    (ho : o.op = .call { callee := .builtin .append, args := #[s, x], argTypes := #[25, 25] }) (B : Nat) (v : Value) (l : List ByteArray) (hs : a.eval s = v) (hown : OwnS w B v l)
    (ax : Option Addr) (n c : Nat) (m : List ByteArray) (hx : a.eval x = .slice ax n c) (hn : n = m.length) (hxo : StrsIn w (fun _ => True) ax m) (hlen : l.length ≤ 1000001) (hlen2 : m.length ≤ 1000000) (hB : B ≤ w.heap.size)
    (h : ∀ v' w', OwnS w' B v' (l ++ m) → w.grownBy w' v.ownBlock → wpList Tryz.prog ops Q rest (a.put o.dst v') w') : wpList Tryz.prog ops Q (o :: rest) a w := by
  obtain ⟨v', w', hr, h1, h2⟩ := run_append_strsV (w := w) o.type B v l hown ax n c m hn hxo hlen hlen2 hB
  refine wpList_plain hgd fun K hK => ?_
  unfold Oper.wp execOp
  simp only [ho, resolve, invoke, builtin, Sem.run_bind, Sem.run_pure, Result.andThen_ok, List.map_toArray, List.map_cons, List.map_nil, hs, hx, hr]
  exact hK _ _ (h v' w' h1 h2)

theorem step_append_strsV {w : World} {ops : Array Oper} {o : Oper} {a : Act} {K : Act → World → Prop} {Q : Exit → Act → World → Prop} {E : Prop} (hgd : o.guard = none) (s x : Operand)
    (ho : o.op = .call { callee := .builtin .append, args := #[s, x], argTypes := #[25, 25] }) (B : Nat) (v : Value) (l : List ByteArray) (hs : a.eval s = v) (hown : OwnS w B v l)
    (ax : Option Addr) (n c : Nat) (m : List ByteArray) (hx : a.eval x = .slice ax n c) (hn : n = m.length) (hxo : StrsIn w (fun _ => True) ax m) (hlen : l.length ≤ 1000001) (hlen2 : m.length ≤ 1000000) (hB : B ≤ w.heap.size)
    (h : ∀ v' w', OwnS w' B v' (l ++ m) → w.grownBy w' v.ownBlock → K (a.put o.dst v') w') :
    if Region.wanted o (yielded ops a.tmps) = true then Oper.wp Tryz.prog o a w K Q else E := by
  have hw : Region.wanted o (yielded ops a.tmps) = true := by simp [Region.wanted, hgd]
  rw [if_pos hw]
  obtain ⟨v', w', hr, h1, h2⟩ := run_append_strsV (w := w) o.type B v l hown ax n c m hn hxo hlen hlen2 hB
  unfold Oper.wp execOp
  simp only [ho, resolve, invoke, builtin, Sem.run_bind, Sem.run_pure, Result.andThen_ok, List.map_toArray, List.map_cons, List.map_nil, hs, hx, hr]
  exact h v' w' h1 h2

theorem StrsIn.take {w : World} {S : Nat → Prop} {a : Option Addr} {l : List ByteArray} (h : StrsIn w S a l) (k : Nat) : StrsIn w S a (l.take k) := by
  obtain ⟨b, off, ha, hc⟩ := h
  refine ⟨b, off, fun h0 => ha (by simp at h0; omega), fun i hi => ?_⟩
  have hi' : i < l.length := by simp at hi; omega
  rw [List.getElem_take]
  exact hc i hi'
theorem StrsIn.drop {w : World} {S : Nat → Prop} {b off c : Nat} {l : List ByteArray} (h : StrsIn w S (some ⟨b, off, none⟩) l) (k : Nat) (hk : k ≤ l.length) (hc : l.length ≤ c) :
    StrsIn w S (if c = k then some ⟨b, off, none⟩ else some ⟨b, off + k, none⟩) (l.drop k) := by
  by_cases hlt : k < l.length
  · rw [if_neg (by omega)]
    obtain ⟨b', off', ha, hcells⟩ := h
    obtain ⟨e, hS⟩ := ha (by omega)
    injection e with e
    injection e with e1 e2
    subst e1 e2
    refine ⟨b, off + k, fun _ => ⟨rfl, hS⟩, fun i hi => ?_⟩
    have hi' : k + i < l.length := by simp at hi; omega
    rw [List.getElem_drop, show off + k + i = off + (k + i) by omega]
    exact hcells (k + i) hi'
  · rw [List.drop_eq_nil_of_le (by omega)]
    exact StrsIn.nil _
theorem StrsIn.one {w : World} {S : Nat → Prop} {m : Nat} {s : ByteArray} {ty : TypeId} (h : w.heap[m]? = some (.cells #[.string s] ty (0, 0))) (hS : S m) (hs : s.size ≤ maxLen) : StrsIn w S (some ⟨m, 0, none⟩) [s] :=
  ⟨m, 0, fun _ => ⟨rfl, hS⟩, fun i hi => by
    obtain rfl : i = 0 := by simp at hi; exact hi
    exact ⟨cell_one0 h, hs⟩⟩

/-- A formula's atoms, put into an ascending list one after another. -/
def colT (acc : List ByteArray) (t : Tree) : List ByteArray := (atomKs (keysT t)).foldl (fun acc x => insS x acc) acc
def colL (acc : List ByteArray) (l : List Tree) : List ByteArray := (atomKs (keysL l)).foldl (fun acc x => insS x acc) acc
theorem atomKs_append (k m : List (Int × ByteArray × Nat)) : atomKs (k ++ m) = atomKs k ++ atomKs m := by simp [atomKs]
theorem colL_take (acc : List ByteArray) (l : List Tree) (k : Nat) (h : k < l.length) : colL acc (l.take (k + 1)) = colT (colL acc (l.take k)) l[k] := by
  unfold colL colT
  rw [keysL_take l k h, atomKs_append, List.foldl_append]
theorem colT_node (acc : List ByteArray) (op : Int) (name : ByteArray) (ts : List Tree) : colT acc (.node op name ts) = colL (if op = 3 ∧ ts.length = 0 then insS name acc else acc) ts := by
  unfold colT colL
  rw [keysT, ← List.singleton_append, atomKs_append, List.foldl_append]
  congr 1
  by_cases h : op = 3 ∧ ts.length = 0
  · rw [if_pos h]
    simp [atomKs, h.1, h.2]
  · rw [if_neg h]
    have : atomKs [(op, name, ts.length)] = [] := by
      unfold atomKs
      rw [List.filter_cons_of_neg (by simpa using h)]
      rfl
    rw [this]
    rfl
theorem foldl_ins_len : ∀ (l acc : List ByteArray), (l.foldl (fun acc x => insS x acc) acc).length ≤ acc.length + l.length
  | [], acc => by simp
  | x :: l, acc => by
    have h1 := foldl_ins_len l (insS x acc)
    have h2 := insS_len x acc
    simp only [List.foldl_cons, List.length_cons]
    omega
theorem colT_len (acc : List ByteArray) (t : Tree) : (colT acc t).length ≤ acc.length + t.nodes := by
  have h1 := foldl_ins_len (atomKs (keysT t)) acc
  have h2 := atomKs_len (keysT t)
  rw [keysT_len] at h2
  unfold colT
  omega
theorem colL_len (acc : List ByteArray) (l : List Tree) : (colL acc l).length ≤ acc.length + nodesL l := by
  have h1 := foldl_ins_len (atomKs (keysL l)) acc
  have h2 := atomKs_len (keysL l)
  have h3 : ∀ l : List Tree, (keysL l).length = nodesL l := fun l => by
    induction l with
    | nil => rfl
    | cons t l ih => rw [keysL, List.length_append, keysT_len, ih]; rfl
  rw [h3] at h2
  unfold colL
  omega
theorem atoms_col (t : Tree) : atomsT t = colT [] t := rfl
end Go.Proofs.YtilkpjcbmllgmaaGreatDoor

namespace Go.Proofs.YtilkpjcbmllgmaaGreatDoor
set_option linter.unusedVariables false
set_option linter.unusedSimpArgs false
open Go Go.RowKit

theorem blt_iff (a b : ByteArray) : Op.bytesLess a.toList b.toList = true ↔ a.data.toList < b.data.toList := by
  rw [Proofs.bytesLess_eq, Lib.toList_data, Lib.toList_data]
  simp

set_option maxRecDepth 100000 in
set_option maxHeartbeats 1000000 in
theorem qinsert_any (v : Value) (l : List ByteArray) (x : ByteArray) (hx : x.size ≤ maxLen) (hn : l.length ≤ 1000000) (w : World) (h : StrsV w v l) :
    Calls Tryz.prog 91 #[v, .string x] w fun e w' => ∃ u, e = .returned u ∧ StrsV w' u (insS x l) ∧ Below w.heap.size w w' := by
  have HV := hidIt h
  obtain ⟨a, c, rfl, hlc, hcm, ha, hs⟩ := h
  have HS := hidIt hs
  have HA := hidIt ha
  have HCM := hidIt hcm
  have HX := hidIt hx
  unfold maxLen at hcm
  clear hs ha hx
  go_enter Tryz.func91, Tryz.ntmps91
  go_wp2_with fail
  go_loop [5] (fun i => ∃ k : Nat, k ≤ l.length ∧ i = .int .i64 k ∧ Hid (∀ y ∈ l.take k, y.data.toList < x.data.toList)) (fun i => l.length - (intOf i).toNat)
  case atStart => exact ⟨0, Nat.zero_le _, rfl, by intro y hy; simp at hy⟩
  case round =>
    obtain ⟨k, hk, rfl, hno⟩ := hrel
    have hk0 : (0 : Int) ≤ (k : Int) := by omega
    have hkc : (k : Int) ≤ (c : Int) := by omega
    by_cases hlt : k < l.length
    · obtain ⟨b, off, rfl, c0, hsz⟩ := HS.out.at k hlt
      have hlt' : (k : Int) < (l.length : Int) := by omega
      have HST : Hid (l[k].data.toList < x.data.toList → ∀ y ∈ l.take (k + 1), y.data.toList < x.data.toList) := fun h y hy => by
        rw [take_snoc' l k hlt, List.mem_append] at hy
        rcases hy with hy | hy
        · exact hno.out y hy
        · rw [List.mem_singleton.1 hy]
          exact h
      have HSAME := hidIt (fun e => insS_same x l k hlt hno.out e)
      have HATT := hidIt (fun e1 e2 => insS_at x l k hlt hno.out e1 e2)
      have HLS := hidIt (blt_iff l[k] x)
      generalize l[k] = y at *
      cases hb : Op.bytesLess y.toList x.toList
      · cases he : (y.toList == x.toList)
        · have HI : Hid (insS x l = (l.take k ++ [x]) ++ l.drop k) := HATT.out (fun e => by rw [HLS.out.2 e] at hb; cases hb) (fun e => by rw [e, beq_self_eq_true] at he; cases he)
          clear HST HSAME HATT HLS
          have HT6 : Hid (StrsIn (w.alloc (.cells #[] 9)) (fun _ => True) (some ⟨b, off, none⟩) (l.take k)) := (HS.out.take k).go (Grows.alloc _ _)
          go_wp2_with (at_builtin; refine wpList_append_strsV rfl _ _ rfl w.heap.size _ [] rfl (OwnS.made w w.heap.size (Nat.le_refl _)) _ _ _ (l.take k) rfl (by simp; try omega) HT6.out (by simp) (by first | omega | (simp; done) | (simp; omega)) (by simp) ?_)
          intro v6 w6 ho6 hg6
          have hsz6 : w.heap.size < w6.heap.size := by have := hg6.size; simp at this; omega
          have HB6 : Hid (Below w.heap.size w w6) := below_over2 (Below.refl _ _) (Grows.alloc _ _) hg6 (fun g e => by simp [Value.ownBlock] at e; omega)
          have HO7 : Hid (OwnS (w6.drew.alloc (.cells #[.string x] 9)) w.heap.size v6 (l.take k)) := OwnS.go (l := (l.take k)) ho6 ((Below.refl _ _).drew.alloc (Nat.le_refl _) _)
          have HR7 : Hid (StrsIn (w6.drew.alloc (.cells #[.string x] 9)) (fun _ => True) (some ⟨w6.heap.size, 0, none⟩) [x]) := StrsIn.one (heap_alloc_new w6.drew _) trivial HX.out
          have HD7 : Hid (StrsIn w6 (fun i => i < w.heap.size) (if c = k then some ⟨b, off, none⟩ else some ⟨b, off + k, none⟩) (l.drop k)) := ((HS.out.mono (S' := fun i => i < w.heap.size) fun i hi _ => hi).kept fun i hi _ => HB6.out.block i hi).drop k hk hlc
          have HOB := hidIt (OwnS.block (l := (l.take k)) ho6)
          have hd7 : (l.drop k).length = l.length - k := by simp
          have hlk : (l.take k).length = k := by simp; try omega
          clear ho6 HT6
          go_wp2_with fail
          go_region_law (first
            | (refine step_append_strsV (by rfl) (.tmp 39) (.tmp 41) (by rfl) w.heap.size v6 (l.take k) (by rfl) HO7.out _ _ _ [x] (by rfl) (by rfl) HR7.out (by first | omega | (rw [hlk]; omega)) (by simp) (by simp; omega) ?_
               intro v8 w8 ho8 hg8
               have hob8 := ho8.block
               have hz8 := hg8.size)
            | (refine step_append_strsV (by rfl) (.tmp 42) (.tmp 45) (by rfl) w.heap.size v8 ((l.take k) ++ [x]) (by rfl) ho8 _ _ _ (l.drop k) (by rfl) (by simp) (StrsIn.mono (StrsIn.kept HD7.out fun i hi hl => (hg8.block i (by simp; omega) (fun e => by have := (HOB.out _ e.symm).1; omega)).trans (Below.heap_alloc _ _ _ (by simpa using hl))) fun _ _ _ => trivial) (by simp; try omega) (by rw [hd7]; omega) (by have := hg8.size; simp at this; omega) ?_
               intro v9 w9 ho9 hg9))
          all_goals (go_wp2_with fail)
          all_goals
            go_ret
            exact ⟨_, rfl, by rw [HI.out]; exact OwnS.strsV (l := ((l.take k) ++ [x]) ++ (l.drop k)) ho9, below_over2 (below_over2 HB6.out ((Below.refl _ _).drew.alloc (Nat.le_refl _) _) hg8 (fun g e => (HOB.out g e).1)) (Below.refl _ _) hg9 (fun g e => (hob8 g e).1)⟩
        · have HI : Hid (insS x l = l) := HSAME.out (by
            have h1 := eq_of_beq he
            rw [Lib.toList_data, Lib.toList_data] at h1
            exact bytes_eq h1)
          clear HST HSAME HATT HLS
          go_wp2_with fail
          go_ret
          exact ⟨_, rfl, by rw [HI.out]; exact HV.out, Below.refl _ _⟩
      · have HT := hidIt (HST.out (HLS.out.1 hb))
        clear HST HSAME HATT HLS
        go_wp2_with fail
        go_round
        case rel => exact ⟨k + 1, by omega, by go_num, HT⟩
        case measure => simp [intOf]; omega
    · obtain rfl : k = l.length := by omega
      have HI : Hid (insS x l = (l ++ [x]) ++ []) := by
        have := insS_end x l hno.out
        rw [List.take_length, List.drop_length] at this
        exact this
      rcases HA.out with ⟨rfl, rfl⟩ | ⟨b, off, rfl⟩
      · obtain rfl : l = [] := List.eq_nil_of_length_eq_zero (by omega)
        have HT6 : Hid (StrsIn (w.alloc (.cells #[] 9)) (fun _ => True) none ([] : List ByteArray)) := StrsIn.nil _
        go_wp2_with (at_builtin; refine wpList_append_strsV rfl _ _ rfl w.heap.size _ [] rfl (OwnS.made w w.heap.size (Nat.le_refl _)) _ _ _ ([] : List ByteArray) rfl (by simp; try omega) HT6.out (by simp) (by first | omega | (simp; done) | (simp; omega)) (by simp) ?_)
        intro v6 w6 ho6 hg6
        have hsz6 : w.heap.size < w6.heap.size := by have := hg6.size; simp at this; omega
        have HB6 : Hid (Below w.heap.size w w6) := below_over2 (Below.refl _ _) (Grows.alloc _ _) hg6 (fun g e => by simp [Value.ownBlock] at e; omega)
        have HO7 : Hid (OwnS (w6.drew.alloc (.cells #[.string x] 9)) w.heap.size v6 ([] : List ByteArray)) := OwnS.go (l := ([] : List ByteArray)) ho6 ((Below.refl _ _).drew.alloc (Nat.le_refl _) _)
        have HR7 : Hid (StrsIn (w6.drew.alloc (.cells #[.string x] 9)) (fun _ => True) (some ⟨w6.heap.size, 0, none⟩) [x]) := StrsIn.one (heap_alloc_new w6.drew _) trivial HX.out
        have HD7 : Hid (StrsIn w6 (fun i => i < w.heap.size) none ([] : List ByteArray)) := StrsIn.nil _
        have HOB := hidIt (OwnS.block (l := ([] : List ByteArray)) ho6)
        have hd7 : ([] : List ByteArray).length = 0 := rfl
        have hlk : ([] : List ByteArray).length = 0 := by simp; try omega
        clear ho6 HT6
        go_wp2_with fail
        go_region_law (first
          | (refine step_append_strsV (by rfl) (.tmp 39) (.tmp 41) (by rfl) w.heap.size v6 ([] : List ByteArray) (by rfl) HO7.out _ _ _ [x] (by rfl) (by rfl) HR7.out (by first | omega | (rw [hlk]; omega)) (by simp) (by simp; omega) ?_
             intro v8 w8 ho8 hg8
             have hob8 := ho8.block
             have hz8 := hg8.size)
          | (refine step_append_strsV (by rfl) (.tmp 42) (.tmp 45) (by rfl) w.heap.size v8 (([] : List ByteArray) ++ [x]) (by rfl) ho8 _ _ _ ([] : List ByteArray) (by rfl) (by simp) (StrsIn.mono (StrsIn.kept HD7.out fun i hi hl => (hg8.block i (by simp; omega) (fun e => by have := (HOB.out _ e.symm).1; omega)).trans (Below.heap_alloc _ _ _ (by simpa using hl))) fun _ _ _ => trivial) (by simp; try omega) (by rw [hd7]; omega) (by have := hg8.size; simp at this; omega) ?_
             intro v9 w9 ho9 hg9))
        all_goals (go_wp2_with fail)
        all_goals
          go_ret
          exact ⟨_, rfl, by rw [HI.out]; exact OwnS.strsV (l := (([] : List ByteArray) ++ [x]) ++ ([] : List ByteArray)) ho9, below_over2 (below_over2 HB6.out ((Below.refl _ _).drew.alloc (Nat.le_refl _) _) hg8 (fun g e => (HOB.out g e).1)) (Below.refl _ _) hg9 (fun g e => (hob8 g e).1)⟩
      · have HT6 : Hid (StrsIn (w.alloc (.cells #[] 9)) (fun _ => True) (some ⟨b, off, none⟩) l) := HS.out.go (Grows.alloc _ _)
        go_wp2_with (at_builtin; refine wpList_append_strsV rfl _ _ rfl w.heap.size _ [] rfl (OwnS.made w w.heap.size (Nat.le_refl _)) _ _ _ l rfl (by rfl) HT6.out (by simp) (by first | omega | (simp; done) | (simp; omega)) (by simp) ?_)
        intro v6 w6 ho6 hg6
        have hsz6 : w.heap.size < w6.heap.size := by have := hg6.size; simp at this; omega
        have HB6 : Hid (Below w.heap.size w w6) := below_over2 (Below.refl _ _) (Grows.alloc _ _) hg6 (fun g e => by simp [Value.ownBlock] at e; omega)
        have HO7 : Hid (OwnS (w6.drew.alloc (.cells #[.string x] 9)) w.heap.size v6 l) := OwnS.go (l := l) ho6 ((Below.refl _ _).drew.alloc (Nat.le_refl _) _)
        have HR7 : Hid (StrsIn (w6.drew.alloc (.cells #[.string x] 9)) (fun _ => True) (some ⟨w6.heap.size, 0, none⟩) [x]) := StrsIn.one (heap_alloc_new w6.drew _) trivial HX.out
        have HD7 : Hid (StrsIn w6 (fun i => i < w.heap.size) (if c = l.length then some ⟨b, off, none⟩ else some ⟨b, off + l.length, none⟩) ([] : List ByteArray)) := StrsIn.nil _
        have HOB := hidIt (OwnS.block (l := l) ho6)
        have hd7 : ([] : List ByteArray).length = 0 := rfl
        have hlk : l.length = l.length := rfl
        clear ho6 HT6
        go_wp2_with fail
        go_region_law (first
          | (refine step_append_strsV (by rfl) (.tmp 39) (.tmp 41) (by rfl) w.heap.size v6 l (by rfl) HO7.out _ _ _ [x] (by rfl) (by rfl) HR7.out (by first | omega | (rw [hlk]; omega)) (by simp) (by simp; omega) ?_
             intro v8 w8 ho8 hg8
             have hob8 := ho8.block
             have hz8 := hg8.size)
          | (refine step_append_strsV (by rfl) (.tmp 42) (.tmp 45) (by rfl) w.heap.size v8 (l ++ [x]) (by rfl) ho8 _ _ _ ([] : List ByteArray) (by rfl) (by simp) (StrsIn.mono (StrsIn.kept HD7.out fun i hi hl => (hg8.block i (by simp; omega) (fun e => by have := (HOB.out _ e.symm).1; omega)).trans (Below.heap_alloc _ _ _ (by simpa using hl))) fun _ _ _ => trivial) (by simp; try omega) (by rw [hd7]; omega) (by have := hg8.size; simp at this; omega) ?_
             intro v9 w9 ho9 hg9))
        all_goals (go_wp2_with fail)
        all_goals
          go_ret
          exact ⟨_, rfl, by rw [HI.out]; exact OwnS.strsV (l := (l ++ [x]) ++ ([] : List ByteArray)) ho9, below_over2 (below_over2 HB6.out ((Below.refl _ _).drew.alloc (Nat.le_refl _) _) hg8 (fun g e => (HOB.out g e).1)) (Below.refl _ _) hg9 (fun g e => (hob8 g e).1)⟩
end Go.Proofs.YtilkpjcbmllgmaaGreatDoor

namespace Go.Proofs.YtilkpjcbmllgmaaGreatDoor
set_option linter.unusedVariables false
set_option linter.unusedSimpArgs false
open Go Go.RowKit

set_option maxRecDepth 100000 in
set_option maxHeartbeats 2000000 in
theorem qcollect_any : ∀ t : Tree, ∀ (acc : List ByteArray) (u v : Value) (w : World), acc.length + t.nodes ≤ 1000000 → FormAt w none v t → StrsV w u acc →
    Calls Tryz.prog 52 #[u, v] w fun e w' => ∃ u', e = .returned u' ∧ StrsV w' u' (colT acc t) ∧ Below w.heap.size w w' := by
  refine Tree.ind fun op name ts ih acc u v w hn hv hu => ?_
  obtain ⟨a, cap, -, -, rfl, hop, hname, hlen, hcap, -, -⟩ := hv.form
  simp only [Tree.op_node, Tree.name_node, Tree.args_node] at *
  have HF0 : Hid (FormsAt w none a ts) := hv.forms
  have HNM := hidIt hname
  have hlt0 : ts.length ≤ 1000000 := by have h1 := nodes_len_le ts; simp only [Tree.nodes] at hn; omega
  have HNL : Hid (acc.length + (1 + nodesL ts) ≤ 1000000) := by simp only [Tree.nodes] at hn; exact hn
  have hacc : acc.length ≤ 999999 := by simp only [Tree.nodes] at hn; omega
  have HU0 := hidIt hu
  have IH := hidIt ih
  have HCN := hidIt (colT_node acc op name ts)
  unfold maxLen at hcap
  clear ih hn hv hu hop hname
  by_cases hat : op = 3 ∧ ts.length = 0
  case pos =>
    obtain ⟨rfl, hz⟩ := hat
    rw [if_pos ⟨rfl, hz⟩] at HCN
    obtain rfl : ts = [] := List.eq_nil_of_length_eq_zero hz
    simp only [List.length_nil] at *
    have HB1 : Hid (Below w.heap.size w (w.alloc (.cells #[.int .i64 3, .string name, .slice a 0 cap] 24))) := Grows.alloc _ _
    have HX1 := hidIt (heap_alloc_new w (.cells #[.int .i64 3, .string name, .slice a 0 cap] 24))
    have HU1 := hidIt (HU0.out.go HB1.out)
    have HE : Hid (colL (insS name acc) [] = insS name acc) := rfl
    go_enter Tryz.func52, Tryz.ntmps52
    go_wp2_with fail
    refine (qinsert_any u acc name HNM.out (by omega) _ HU1.out).mono ?_
    rintro e w1 ⟨u1, rfl, hs1, hb1⟩
    have HX2 := hidIt (blk_kept HX1.out hb1)
    have HB2 := hidIt (HB1.out.trans (Below.mono hb1 HB1.out.size))
    have HU2 := hidIt hs1
    obtain ⟨x0, x1, x2⟩ := cell_of3 HX2.out
    have hlx := lt_of_block HX2.out
    clear hs1 hb1 HX1 HB1 HU1 HX2 HU0
    go_wp2_with fail
    go_loopw [0, 5] (fun uu i wr => uu = u1 ∧ i = .int .i64 0 ∧ wr = w1) (fun _ _ _ => 0)
    case atStart => exact ⟨rfl, rfl, rfl⟩
    case round =>
      obtain ⟨rfl, rfl, rfl⟩ := hrel
      go_wp2_with fail
      go_ret
      exact ⟨_, rfl, by rw [HCN.out, HE.out]; exact HU2.out, HB2.out⟩
  case neg =>
    rw [if_neg hat] at HCN
    have hcs : (op == 3) = false ∨ (op = 3 ∧ ((ts.length : Int) == 0) = false) := by
      simp only [beq_eq_false_iff_ne]
      omega
    clear hat
    have HB1 : Hid (Below w.heap.size w (w.alloc (.cells #[.int .i64 op, .string name, .slice a ts.length cap] 24))) := Grows.alloc _ _
    have HX1 := hidIt (heap_alloc_new w (.cells #[.int .i64 op, .string name, .slice a ts.length cap] 24))
    have HU1 := hidIt (HU0.out.go HB1.out)
    have HF1 := hidIt (FormsIn.go HF0.out HB1.out)
    have HZ : Hid (colL acc (ts.take 0) = acc) := rfl
    have HLEN : Hid (∀ k, k ≤ ts.length → (colL acc (ts.take k)).length + (nodesL ts - nodesL (ts.take k)) ≤ 1000000) := fun k hk => by
      have h1 := colL_len acc (ts.take k)
      have h2 := HNL.out
      have h3 := nodesL_take_le ts k
      omega
    have HND : Hid (∀ k (h : k < ts.length), nodesL (ts.take k) + ts[k].nodes ≤ nodesL ts) := fun k h => by
      have h1 := nodesL_take ts k h
      have h2 := nodesL_take_le ts (k + 1)
      omega
    clear HU0 HF0
    rcases hcs with h3 | ⟨rfl, hz0⟩
    all_goals
      go_enter Tryz.func52, Tryz.ntmps52
      go_wp2_with fail
      generalize (w.alloc _) = w1 at *
      go_loopw [0, 5] (fun uu i wr => ∃ k : Nat, k ≤ ts.length ∧ i = .int .i64 k ∧ Hid (StrsV wr uu (colL acc (ts.take k))) ∧ Hid (Below w1.heap.size w1 wr)) (fun _ i _ => ts.length - (intOf i).toNat)
      case atStart => exact ⟨0, Nat.zero_le _, rfl, HU1.out, Below.refl _ _⟩
      case round =>
        obtain ⟨k, hk, rfl, hs, hbel⟩ := hrel
        have kX := blk_kept HX1.out hbel.out
        obtain ⟨x0, x1, x2⟩ := cell_of3 kX
        have hlx := lt_of_block kX
        clear kX
        by_cases hlt : k < ts.length
        · obtain ⟨b', off', a', c', rfl, c0, c1, c2, hf⟩ := (FormsIn.go HF1.out hbel.out).at k hlt
          have HM : Hid (ts[k] ∈ ts) := List.getElem_mem hlt
          have HTK := hidIt (colL_take acc ts k hlt)
          have HLK : Hid ((colL acc (ts.take k)).length + ts[k].nodes ≤ 1000000) := by
            have h1 := HLEN.out k hk
            have h2 := HND.out k hlt
            show _ ≤ _
            omega
          have HF := hidIt hf
          have hlt1 : (k : Int) < (ts.length : Int) := by omega
          have hk0 : (0 : Int) ≤ (k : Int) := by omega
          clear hf
          generalize ts[k] = t at *
          generalize colL acc (ts.take k) = ac at *
          go_wp2_with fail
          refine (IH.out t HM.out ac _ _ _ HLK.out HF.out hs.out).mono ?_
          rintro e w2 ⟨u2, rfl, hs2, hb2⟩
          have HS2 := hidIt hs2
          have HB2 := hidIt (hbel.out.trans (Below.mono hb2 hbel.out.size))
          clear hs2 hb2
          go_wp2_with fail
          go_roundw
          case rel => exact ⟨k + 1, by omega, by go_num, by rw [HTK.out]; exact HS2.out, HB2.out⟩
          case measure => simp [intOf]; omega
        · obtain rfl : k = ts.length := by omega
          rw [List.take_length] at hs
          go_wp2_with fail
          go_ret
          exact ⟨_, rfl, by rw [HCN.out]; exact hs.out, HB1.out.trans (Below.mono hbel.out HB1.out.size)⟩

set_option maxRecDepth 100000 in
set_option maxHeartbeats 1000000 in
theorem qatoms_any (t : Tree) (v : Value) (w : World) (hn : t.nodes ≤ 1000000) (hv : FormAt w none v t) :
    Calls Tryz.prog 13 #[v] w fun e w' => ∃ u, e = .returned u ∧ StrsV w' u (atomsT t) ∧ Below w.heap.size w w' := by
  obtain ⟨a, cap, -, -, rfl, hop, hname, hlen, hcap, -, -⟩ := hv.form
  have hb0 : Below w.heap.size w (w.alloc (.cells #[.int .i64 t.op, .string t.name, .slice a t.args.length cap] 24)) := Grows.alloc _ _
  have HF := hidIt (FormAt.go hv hb0)
  have HB := hidIt hb0
  clear hv hb0 hop hname hlen hcap
  go_enter Tryz.func13, Tryz.ntmps13
  go_wp2_with fail
  refine (qcollect_any t [] _ _ _ (by simpa using hn) HF.out (StrsV.nil _)).mono ?_
  rintro e w1 ⟨u1, rfl, hs1, hb1⟩
  have HS1 := hidIt hs1
  have HB1 := hidIt (HB.out.trans (Below.mono hb1 HB.out.size))
  clear hs1 hb1
  go_wp2_with fail
  go_ret
  exact ⟨_, rfl, by rw [atoms_col]; exact HS1.out, HB1.out⟩
end Go.Proofs.YtilkpjcbmllgmaaGreatDoor

namespace Go.Proofs.YtilkpjcbmllgmaaGreatDoor
set_option linter.unusedVariables false
set_option linter.unusedSimpArgs false
open Go.RowKit

set_option maxRecDepth 100000 in
set_option maxHeartbeats 1000000 in
theorem qsize_any : ∀ (t : Tree) (v : Value) (w : World), FormAt w none v t → t.nodes ≤ 1000000000 →
    Calls Tryz.prog 102 #[v] w fun e w' => e = .returned (.int .i64 t.nodes) ∧ Below w.heap.size w w' := by
  refine Tree.ind fun op name ts ih v w hv hn => ?_
  obtain ⟨a, cap, b, off, rfl, hop, hname, hlen, hcap, -, -⟩ := hv.form
  have HV := hidIt hv.forms
  simp only [Tree.op_node, Tree.name_node, Tree.args_node] at *
  have HN : Hid ((Tree.node op name ts).nodes = 1 + nodesL ts) := by show _ = _; simp [Tree.nodes]
  have hn' : 1 + nodesL ts ≤ 1000000000 := by rw [← HN.out]; exact hn
  have hlt : ts.length ≤ nodesL ts := nodes_len_le ts
  have IH := hidIt ih
  unfold maxLen at hcap
  clear ih hv hn
  go_enter Tryz.func102, Tryz.ntmps102
  go_wp2_with fail
  have hb0 : Below w.heap.size w (w.alloc (.cells #[.int .i64 op, .string name, .slice a ts.length cap] 24)) := (Below.refl _ _).alloc (Nat.le_refl _) _
  have HB0 := hidIt hb0
  have HX : Hid ((w.alloc (.cells #[.int .i64 op, .string name, .slice a ts.length cap] 24)).heap[w.heap.size]? = some (.cells #[.int .i64 op, .string name, .slice a ts.length cap] 24 (0, 0))) := heap_alloc_new w _
  clear hb0
  generalize (w.alloc (.cells #[.int .i64 op, .string name, .slice a ts.length cap] 24)) = W at *
  go_loopw [3, 4] (fun t i wr => ∃ k : Nat, k ≤ ts.length ∧ i = .int .i64 k ∧ t = .int .i64 (1 + nodesL (ts.take k) : Nat) ∧ Hid (Below W.heap.size W wr)) (fun _ i _ => ts.length - (intOf i).toNat)
  case atStart => exact ⟨0, Nat.zero_le _, rfl, by simp [nodesL], Below.refl _ _⟩
  case round =>
    obtain ⟨k, hk, rfl, rfl, hbel⟩ := hrel
    have HBw := hidIt (HB0.out.trans (hbel.out.mono HB0.out.size))
    have kX := blk_kept HX.out hbel.out
    obtain ⟨x0, x1, x2⟩ := cell_of3 kX
    have hlx := lt_of_block kX
    clear kX
    by_cases hlt : k < ts.length
    · obtain ⟨b', off', a', c', rfl, c0, c1, c2, hf⟩ := (HV.out.go HBw.out).at k hlt
      have HF := hidIt hf
      have hs := nodesL_take ts k hlt
      have hs2 := nodesL_take_le ts (k + 1)
      have HS := hidIt hs
      have hb1 : nodesL (ts.take k) ≤ 1000000000 := by omega
      have hb2 : nodesL (ts.take k) + (ts[k]).nodes ≤ 1000000000 := by omega
      have hm : ts[k] ∈ ts := List.getElem_mem hlt
      clear hf hs hs2
      generalize ts[k] = t at *
      have hlt0 : (k : Int) < (ts.length : Int) := by omega
      have hk0 : (0 : Int) ≤ (k : Int) := by omega
      have hb3 : t.nodes ≤ 1000000000 := by omega
      go_wp2_with fail
      refine (IH.out t hm _ _ HF.out hb3).mono ?_
      rintro e w5 ⟨rfl, h5⟩
      have HB5 : Hid (Below W.heap.size W w5) := hbel.out.trans (Below.mono h5 hbel.out.size)
      clear h5
      go_wp2_with fail
      go_roundw
      case rel => exact ⟨k + 1, by omega, by go_num, by rw [HS.out]; go_num, HB5.out⟩
      case measure => simp [intOf]; omega
    · go_wp2_with fail
      go_ret
      exact ⟨ret_int (by rw [HN.out, List.take_of_length_le (by omega)]), HBw.out⟩
set_option maxRecDepth 100000 in
set_option maxHeartbeats 1000000 in
theorem qdepth_any : ∀ (t : Tree) (v : Value) (w : World), FormAt w none v t → t.nodes ≤ 1000000000 →
    Calls Tryz.prog 103 #[v] w fun e w' => e = .returned (.int .i64 t.depth) ∧ Below w.heap.size w w' := by
  refine Tree.ind fun op name ts ih v w hv hn => ?_
  obtain ⟨a, cap, b, off, rfl, hop, hname, hlen, hcap, -, -⟩ := hv.form
  have HV := hidIt hv.forms
  simp only [Tree.op_node, Tree.name_node, Tree.args_node] at *
  have HN : Hid ((Tree.node op name ts).nodes = 1 + nodesL ts) := by show _ = _; simp [Tree.nodes]
  have HD : Hid ((Tree.node op name ts).depth = depthL ts) := by show _ = _; simp [Tree.depth]
  have hn' : 1 + nodesL ts ≤ 1000000000 := by rw [← HN.out]; exact hn
  have hlt : ts.length ≤ nodesL ts := nodes_len_le ts
  have IH := hidIt ih
  unfold maxLen at hcap
  clear ih hv hn
  go_enter Tryz.func103, Tryz.ntmps103
  go_wp2_with fail
  have hb0 : Below w.heap.size w (w.alloc (.cells #[.int .i64 op, .string name, .slice a ts.length cap] 24)) := (Below.refl _ _).alloc (Nat.le_refl _) _
  have HB0 := hidIt hb0
  have HX : Hid ((w.alloc (.cells #[.int .i64 op, .string name, .slice a ts.length cap] 24)).heap[w.heap.size]? = some (.cells #[.int .i64 op, .string name, .slice a ts.length cap] 24 (0, 0))) := heap_alloc_new w _
  clear hb0
  generalize (w.alloc (.cells #[.int .i64 op, .string name, .slice a ts.length cap] 24)) = W at *
  go_loopw [3, 4] (fun t i wr => ∃ k : Nat, k ≤ ts.length ∧ i = .int .i64 k ∧ t = .int .i64 (depthL (ts.take k) : Nat) ∧ Hid (Below W.heap.size W wr)) (fun _ i _ => ts.length - (intOf i).toNat)
  case atStart => exact ⟨0, Nat.zero_le _, rfl, by simp [depthL], Below.refl _ _⟩
  case round =>
    obtain ⟨k, hk, rfl, rfl, hbel⟩ := hrel
    have HBw := hidIt (HB0.out.trans (hbel.out.mono HB0.out.size))
    have kX := blk_kept HX.out hbel.out
    obtain ⟨x0, x1, x2⟩ := cell_of3 kX
    have hlx := lt_of_block kX
    clear kX
    by_cases hlt : k < ts.length
    · obtain ⟨b', off', a', c', rfl, c0, c1, c2, hf⟩ := (HV.out.go HBw.out).at k hlt
      have HF := hidIt hf
      have hs := nodesL_take ts k hlt
      have hs2 := nodesL_take_le ts (k + 1)
      have HS := hidIt (depthL_take ts k hlt)
      have hd1 : depthL (ts.take k) ≤ 1000000000 := by
        have h1 := depthL_take_le ts k
        have h2 := depth_lt_nodes (Tree.node op name ts)
        rw [HN.out, HD.out] at h2
        omega
      have hd2 : (ts[k]).depth < (ts[k]).nodes := depth_lt_nodes _
      have hb1 : nodesL (ts.take k) ≤ 1000000000 := by omega
      have hb2 : nodesL (ts.take k) + (ts[k]).nodes ≤ 1000000000 := by omega
      have hm : ts[k] ∈ ts := List.getElem_mem hlt
      clear hf hs hs2
      generalize ts[k] = t at *
      have hlt0 : (k : Int) < (ts.length : Int) := by omega
      have hk0 : (0 : Int) ≤ (k : Int) := by omega
      have hb3 : t.nodes ≤ 1000000000 := by omega
      go_wp2_with fail
      refine (IH.out t hm _ _ HF.out hb3).mono ?_
      rintro e w5 ⟨rfl, h5⟩
      have HB5 : Hid (Below W.heap.size W w5) := hbel.out.trans (Below.mono h5 hbel.out.size)
      clear h5
      go_wp2_with fail
      go_roundw
      case rel => exact ⟨k + 1, by omega, by go_num, by rw [HS.out]; go_num, HB5.out⟩
      case measure => simp [intOf]; omega
    · go_wp2_with fail
      go_ret
      exact ⟨ret_int (by rw [HD.out, List.take_of_length_le (by omega)]), HBw.out⟩

set_option maxRecDepth 100000 in
set_option maxHeartbeats 1000000 in
theorem qkinds_any : ∀ (t : Tree) (v : Value) (w : World), FormAt w none v t →
    Calls Tryz.prog 55 #[v] w fun e w' => e = .returned (.bool (t.all kindB)) ∧ Below w.heap.size w w' := by
  refine Tree.ind fun op name ts ih v w hv => ?_
  obtain ⟨a, cap, b, off, rfl, hop, hname, hlen, hcap, -, -⟩ := hv.form
  have HV := hidIt hv.forms
  have HR : Hid ((Tree.node op name ts).all kindB = (kindB (.node op name ts) && allL kindB ts)) := by show _ = _; simp [Tree.all]
  have HK : Hid (kindB (.node op name ts) = if op = 1 ∨ op = 2 ∨ op = 3 then ts.length == 0
    else if op = 4 then ts.length == 1
    else if op = 5 ∨ op = 6 then decide (2 ≤ ts.length ∧ ts.length ≤ 6)
    else if op = 7 ∨ op = 8 then ts.length == 2
    else false) := rfl
  simp only [Tree.op_node, Tree.name_node, Tree.args_node] at *
  generalize kindB (.node op name ts) = kb at *
  have IH := hidIt ih
  unfold maxLen at hcap
  clear ih hv
  have hnn : (0 : Int) ≤ ts.length := by omega
  obtain ⟨O, hO⟩ : ∃ O : Obj, O = .cells #[.int .i64 op, .string name, .slice a ts.length cap] 24 := ⟨_, rfl⟩
  have hO := hidIt hO
  have hcs : op = 1 ∨ op = 2 ∨ op = 3 ∨ op = 4 ∨ ((op = 5 ∨ op = 6) ∧ (2 : Int) ≤ ts.length) ∨ ((op = 5 ∨ op = 6) ∧ (ts.length : Int) < 2) ∨ op = 7 ∨ op = 8 ∨
      ((op == 1) = false ∧ (op == 2) = false ∧ (op == 3) = false ∧ (op == 4) = false ∧ (op == 5) = false ∧ (op == 6) = false ∧ (op == 7) = false ∧ (op == 8) = false) := by
    simp only [beq_eq_false_iff_ne]
    omega
  rcases hcs with rfl | rfl | rfl | rfl | ⟨rfl | rfl, hn2⟩ | ⟨rfl | rfl, hn2⟩ | rfl | rfl | ⟨e1, e2, e3, e4, e5, e6, e7, e8⟩
  all_goals
    go_enter Tryz.func55, Tryz.ntmps55
    go_wp2_with fail
  all_goals
    rw [← hO.out]
    have HB0 : Hid (Below w.heap.size w (w.alloc O)) := (Below.refl _ _).alloc (Nat.le_refl _) _
    have HX : Hid ((w.alloc O).heap[w.heap.size]? = some O) := heap_alloc_new w _
    generalize w.alloc O = W at *
    rw [hO.out] at HX
    go_loopw [4, 5] (fun ok i wr => ∃ k : Nat, k ≤ ts.length ∧ i = .int .i64 k ∧ ok = .bool (kb && allL kindB (ts.take k)) ∧ Hid (Below W.heap.size W wr)) (fun _ i _ => ts.length - (intOf i).toNat)
    case atStart => exact ⟨0, Nat.zero_le _, rfl, by rw [HK.out]; refine congrArg Value.bool ?_; first | (simp [allL]; done) | (rw [Bool.eq_iff_iff]; simp [allL]; omega) | ((try simp only [beq_eq_false_iff_ne] at *); first | (rw [Bool.eq_iff_iff]; simp_all [allL]; done) | (simp_all [allL]; done) | (trace_state; fail)), Below.refl _ _⟩
    case round =>
      obtain ⟨k, hk, rfl, rfl, hbel⟩ := hrel
      have HBw := hidIt (HB0.out.trans (hbel.out.mono HB0.out.size))
      have kX := blk_kept HX.out hbel.out
      obtain ⟨x0, x1, x2⟩ := cell_of3 kX
      have hlx := lt_of_block kX
      clear kX
      by_cases hlt : k < ts.length
      · obtain ⟨b', off', a', c', rfl, c0, c1, c2, hf⟩ := (HV.out.go HBw.out).at k hlt
        have HF := hidIt hf
        have HS := hidIt (allL_take kindB ts k hlt)
        have hm : ts[k] ∈ ts := List.getElem_mem hlt
        clear hf
        generalize ts[k] = t at *
        have hlt0 : (k : Int) < (ts.length : Int) := by omega
        have hk0 : (0 : Int) ≤ (k : Int) := by omega
        generalize hz : (kb && allL kindB (ts.take k)) = z
        have HZ := hidIt hz
        clear hz
        cases z
        · go_wp2_with fail
          go_roundw
          case rel => exact ⟨k + 1, by omega, by go_num, by rw [HS.out, ← Bool.and_assoc, HZ.out]; rfl, hbel.out⟩
          case measure => simp [intOf]; omega
        · go_wp2_with fail
          refine (IH.out t hm _ _ HF.out).mono ?_
          rintro e w5 ⟨rfl, h5⟩
          have HB5 : Hid (Below W.heap.size W w5) := hbel.out.trans (Below.mono h5 hbel.out.size)
          clear h5
          go_wp2_with fail
          go_roundw
          case rel => exact ⟨k + 1, by omega, by go_num, by rw [HS.out, ← Bool.and_assoc, HZ.out]; rfl, HB5.out⟩
          case measure => simp [intOf]; omega
      · go_wp2_with fail
        go_ret
        exact ⟨ret_bool (by rw [HR.out, List.take_of_length_le (by omega)]), HBw.out⟩

set_option maxRecDepth 100000 in
set_option maxHeartbeats 1000000 in
theorem qnames_any : ∀ (t : Tree) (v : Value) (w : World), FormAt w none v t →
    Calls Tryz.prog 56 #[v] w fun e w' => e = .returned (.bool (t.all nameB)) ∧ Below w.heap.size w w' := by
  refine Tree.ind fun op name ts ih v w hv => ?_
  obtain ⟨a, cap, b, off, rfl, hop, hname, hlen, hcap, -, -⟩ := hv.form
  have HV := hidIt hv.forms
  have HR : Hid ((Tree.node op name ts).all nameB = (nameB (.node op name ts) && allL nameB ts)) := by show _ = _; simp [Tree.all]
  have HK : Hid (nameB (.node op name ts) = if op = 3 then vn name else name.size == 0) := rfl
  have HE := hidIt (isEmpty_size name)
  simp only [Tree.op_node, Tree.name_node, Tree.args_node] at *
  generalize nameB (.node op name ts) = kb at *
  have IH := hidIt ih
  unfold maxLen at hcap
  clear ih hv
  obtain ⟨O, hO⟩ : ∃ O : Obj, O = .cells #[.int .i64 op, .string name, .slice a ts.length cap] 24 := ⟨_, rfl⟩
  have hO := hidIt hO
  have hcs : op = 3 ∨ (op == 3) = false := by
    simp only [beq_eq_false_iff_ne]
    omega
  rcases hcs with rfl | e3
  all_goals
    go_enter Tryz.func56, Tryz.ntmps56
    go_wp2_with (go_at_call 70; refine (rValidName_any _ _ hname).mono ?_; rintro e w' ⟨rfl, rfl⟩)
    rw [← hO.out]
    have HB0 : Hid (Below w.heap.size w (w.alloc O)) := (Below.refl _ _).alloc (Nat.le_refl _) _
    have HX : Hid ((w.alloc O).heap[w.heap.size]? = some O) := heap_alloc_new w _
    generalize w.alloc O = W at *
    rw [hO.out] at HX
    go_loopw [3, 4] (fun ok i wr => ∃ k : Nat, k ≤ ts.length ∧ i = .int .i64 k ∧ ok = .bool (kb && allL nameB (ts.take k)) ∧ Hid (Below W.heap.size W wr)) (fun _ i _ => ts.length - (intOf i).toNat)
    case atStart => exact ⟨0, Nat.zero_le _, rfl, by rw [HK.out]; refine congrArg Value.bool ?_; first | (simp_all [allL]; done) | (simp_all [allL]; exact HE.out), Below.refl _ _⟩
    case round =>
      obtain ⟨k, hk, rfl, rfl, hbel⟩ := hrel
      have HBw := hidIt (HB0.out.trans (hbel.out.mono HB0.out.size))
      have kX := blk_kept HX.out hbel.out
      obtain ⟨x0, x1, x2⟩ := cell_of3 kX
      have hlx := lt_of_block kX
      clear kX
      by_cases hlt : k < ts.length
      · obtain ⟨b', off', a', c', rfl, c0, c1, c2, hf⟩ := (HV.out.go HBw.out).at k hlt
        have HF := hidIt hf
        have HS := hidIt (allL_take nameB ts k hlt)
        have hm : ts[k] ∈ ts := List.getElem_mem hlt
        clear hf
        generalize ts[k] = t at *
        have hlt0 : (k : Int) < (ts.length : Int) := by omega
        have hk0 : (0 : Int) ≤ (k : Int) := by omega
        generalize hz : (kb && allL nameB (ts.take k)) = z
        have HZ := hidIt hz
        clear hz
        cases z
        · go_wp2_with fail
          go_roundw
          case rel => exact ⟨k + 1, by omega, by go_num, by rw [HS.out, ← Bool.and_assoc, HZ.out]; rfl, hbel.out⟩
          case measure => simp [intOf]; omega
        · go_wp2_with fail
          refine (IH.out t hm _ _ HF.out).mono ?_
          rintro e w5 ⟨rfl, h5⟩
          have HB5 : Hid (Below W.heap.size W w5) := hbel.out.trans (Below.mono h5 hbel.out.size)
          clear h5
          go_wp2_with fail
          go_roundw
          case rel => exact ⟨k + 1, by omega, by go_num, by rw [HS.out, ← Bool.and_assoc, HZ.out]; rfl, HB5.out⟩
          case measure => simp [intOf]; omega
      · go_wp2_with fail
        go_ret
        exact ⟨ret_bool (by rw [HR.out, List.take_of_length_le (by omega)]), HBw.out⟩
end Go.Proofs.YtilkpjcbmllgmaaGreatDoor

namespace Go.Proofs.YtilkpjcbmllgmaaGreatDoor
set_option linter.unusedVariables false
set_option linter.unusedSimpArgs false
open Go Go.RowKit

def QVal (l : List ByteArray) (t : Tree) : Prop := ∀ (v : Value) (a : Option Addr) (c : Nat) (w : World), FormAt w none v t → StrsIn w (fun _ => True) a l → Calls Tryz.prog 57 #[v, .slice a l.length c] w fun e w' => e = .returned (.bool (valueB (inB l) t)) ∧ Below w.heap.size w w'

theorem two_of {ts : List Tree} (h : ts.length = 2) : ∃ t u, ts = [t, u] := by
  match ts, h with
  | [t, u], _ => exact ⟨t, u, rfl⟩

theorem take_all {p : Tree → Bool} (ts : List Tree) (k : Nat) (h : k < ts.length) : (ts.take (k + 1)).all p = ((ts.take k).all p && p ts[k]) := by
  rw [List.take_succ_eq_append_getElem h, List.all_append]; simp
theorem take_any {p : Tree → Bool} (ts : List Tree) (k : Nat) (h : k < ts.length) : (ts.take (k + 1)).any p = ((ts.take k).any p || p ts[k]) := by
  rw [List.take_succ_eq_append_getElem h, List.any_append]; simp
theorem inB_takeQ (l : List ByteArray) (k : Nat) (h : k < l.length) (s : ByteArray) : inB (l.take (k + 1)) s = (inB (l.take k) s || (l[k].data.toList == s.data.toList)) := by
  unfold inB
  rw [List.take_succ_eq_append_getElem h, List.any_append]; simp
theorem all_false {p : Tree → Bool} (ts : List Tree) (k : Nat) (h : k < ts.length) (hp : p ts[k] = false) : ts.all p = false := by
  rw [List.all_eq_false]
  exact ⟨_, List.getElem_mem h, by simp [hp]⟩
theorem any_true {p : Tree → Bool} (ts : List Tree) (k : Nat) (h : k < ts.length) (hp : p ts[k] = true) : ts.any p = true := by
  rw [List.any_eq_true]
  exact ⟨_, List.getElem_mem h, hp⟩
theorem inB_at (l : List ByteArray) (k : Nat) (h : k < l.length) : inB l l[k] = true := by
  unfold inB
  rw [List.any_eq_true]
  exact ⟨_, List.getElem_mem h, by simp⟩

set_option maxRecDepth 100000 in
set_option maxHeartbeats 4000000 in
theorem qvalue_any (l : List ByteArray) (hl : l.length ≤ 1000000) : ∀ t : Tree, t.all kindB = true → QVal l t := by
  refine Tree.ind fun op name ts ih hk v ya yc w hv hy => ?_
  obtain ⟨k1, k2⟩ := all_self hk
  have hargs := kindB_args k1
  have IH := hidIt (fun t ht => ih t ht (allL_mem k2 t ht))
  obtain ⟨a, cap, b, off, rfl, hop, hname, hlen', hcap, -, -⟩ := hv.form
  simp only [Tree.op_node, Tree.name_node, Tree.args_node] at *
  have hop8 : op = 1 ∨ op = 2 ∨ op = 3 ∨ op = 4 ∨ op = 5 ∨ op = 6 ∨ op = 7 ∨ op = 8 := by
    unfold kindB at k1
    simp only [Tree.op_node] at k1
    grind
  have hb0 : ∀ O : Obj, Below w.heap.size w (w.alloc O) := fun O => Grows.alloc _ _
  have HF0 : Hid (FormsAt w none a ts) := hv.forms
  have HY0 := hidIt hy
  unfold maxLen at hcap
  clear ih hk k1 k2 hv hop hy
  obtain ⟨h4, h5, h7⟩ := hargs
  obtain ⟨O, hO⟩ : ∃ O : Obj, O = .cells #[.int .i64 op, .string name, .slice a ts.length cap] 24 := ⟨_, rfl⟩
  have HB := hidIt (hb0 O)
  have HX := hidIt (heap_alloc_new w O)
  have HO := hidIt hO
  clear hb0 hO
  rcases hop8 with rfl | rfl | rfl | rfl | rfl | rfl | rfl | rfl
  · have HE : Hid (valueB (inB l) (.node 1 name ts) = true) := by show _ = _; simp [valueB]
    clear h4 h5 h7
    go_enter Tryz.func57, Tryz.ntmps57
    go_wp2_with fail
    go_ret
    exact ⟨ret_bool HE.out.symm, by rw [← HO.out]; exact HB.out⟩
  · have HE : Hid (valueB (inB l) (.node 2 name ts) = false) := by show _ = _; simp [valueB]
    clear h4 h5 h7
    go_enter Tryz.func57, Tryz.ntmps57
    go_wp2_with fail
    go_ret
    exact ⟨ret_bool HE.out.symm, by rw [← HO.out]; exact HB.out⟩
  · have HE : Hid (valueB (inB l) (.node 3 name ts) = inB l name) := by show _ = _; simp [valueB]
    clear h4 h5 h7
    go_enter Tryz.func57, Tryz.ntmps57
    go_wp2_with fail
    rw [← HO.out]
    generalize w.alloc O = W at *
    have HY := hidIt (HY0.out.go HB.out)
    rw [HO.out] at HX
    go_loopw [5] (fun i wr => ∃ k : Nat, k ≤ l.length ∧ i = .int .i64 k ∧ Hid (inB (l.take k) name = false) ∧ Hid (Below W.heap.size W wr)) (fun i _ => l.length - (intOf i).toNat)
    case atStart => exact ⟨0, Nat.zero_le _, rfl, rfl, Below.refl _ _⟩
    case round =>
      obtain ⟨k, hk, rfl, hno, hbel⟩ := hrel
      have HBw := hidIt (HB.out.trans (Below.mono hbel.out HB.out.size))
      have kX := blk_kept HX.out hbel.out
      obtain ⟨x0, x1, x2⟩ := cell_of3 kX
      have hlx := lt_of_block kX
      clear kX
      by_cases hlt : k < l.length
      · obtain ⟨b', off', rfl, c0, -⟩ := (HY.out.go hbel.out).at k hlt
        have hlt0 : (k : Int) < (l.length : Int) := by omega
        have hk0 : (0 : Int) ≤ (k : Int) := by omega
        have HT := hidIt (inB_takeQ l k hlt name)
        have HAT := hidIt (inB_at l k hlt)
        have HNX := hidIt (fun n : Nat => (⟨hbel.out.os, hbel.out.tape, hbel.out.output, hbel.out.size, hbel.out.block⟩ : Below W.heap.size W (wr.drewN n)))
        generalize l[k] = y at *
        by_cases hyn : y = name
        · subst hyn
          go_wp2_with fail
          go_quiet (fail)
          go_wp2_with fail
          go_ret
          exact ⟨ret_bool (HE.out.trans HAT.out).symm, HB.out.trans (Below.mono (HNX.out _) HB.out.size)⟩
        · have HF : Hid ((y.data.toList == name.data.toList) = false) := beq_eq_false_iff_ne.2 (fun e => hyn (ByteArray.ext (Array.toList_inj.1 e)))
          have hyf : (y.toList == name.toList) = false := by
            rw [beq_eq_false_iff_ne]
            intro e
            rw [Lib.toList_data, Lib.toList_data] at e
            exact hyn (ByteArray.ext (Array.toList_inj.1 e))
          go_wp2_with fail
          go_quiet (fail)
          go_wp2_with fail
          go_roundw
          case rel => exact ⟨k + 1, by omega, by go_num, by show _ = _; rw [HT.out, hno.out, HF.out]; rfl, HNX.out _⟩
          case measure => simp [intOf]; omega
      · go_wp2_with fail
        go_ret
        exact ⟨ret_bool (by rw [HE.out, ← hno.out, List.take_of_length_le (by omega)]), HBw.out⟩
  · obtain ⟨t, rfl⟩ : ∃ t, ts = [t] := List.length_eq_one_iff.1 (h4 rfl)
    have HE : Hid (valueB (inB l) (.node 4 name [t]) = !(valueB (inB l) t)) := by show _ = _; simp [valueB, valuesB]
    have hO := HO.out
    subst hO
    obtain ⟨b', off', a', c', rfl, c0, c1, c2, hf⟩ := (HF0.out.go HB.out).at 0 (by simp)
    simp only [List.getElem_cons_zero, Nat.zero_mul, Nat.add_zero] at c0 c1 c2 hf
    simp only [List.length_singleton] at *
    have HF := hidIt hf
    have HY := hidIt (HY0.out.go HB.out)
    have HT := hidIt (IH.out t (by simp))
    clear hf h4 h5 h7 IH HF0 HY0
    go_enter Tryz.func57, Tryz.ntmps57
    go_wp2_with fail
    refine (HT.out _ _ _ _ HF.out HY.out).mono ?_
    rintro e w5 ⟨rfl, h5⟩
    have HB5 := hidIt (HB.out.trans (Below.mono h5 HB.out.size))
    clear h5
    generalize valueB (inB l) t = p at *
    go_wp2_with fail
    go_ret
    exact ⟨ret_bool HE.out.symm, HB5.out⟩
  · have HE : Hid (valueB (inB l) (.node 5 name ts) = ts.all (valueB (inB l))) := by show _ = _; simp [valueB, valuesB_map, List.all_map]
    clear h4 h5 h7
    have hnn : (0 : Int) ≤ ts.length := by omega
    go_enter Tryz.func57, Tryz.ntmps57
    go_wp2_with fail
    rw [← HO.out]
    generalize w.alloc O = W at *
    have HY := hidIt (HY0.out.go HB.out)
    have HFS := hidIt (HF0.out.go HB.out)
    rw [HO.out] at HX
    go_loopw [6] (fun i wr => ∃ k : Nat, k ≤ ts.length ∧ i = .int .i64 k ∧ Hid ((ts.take k).all (valueB (inB l)) = true) ∧ Hid (Below W.heap.size W wr)) (fun i _ => ts.length - (intOf i).toNat)
    case atStart => exact ⟨0, Nat.zero_le _, rfl, rfl, Below.refl _ _⟩
    case round =>
      obtain ⟨k, hk, rfl, hno, hbel⟩ := hrel
      have HBw := hidIt (HB.out.trans (Below.mono hbel.out HB.out.size))
      have kX := blk_kept HX.out hbel.out
      obtain ⟨x0, x1, x2⟩ := cell_of3 kX
      have hlx := lt_of_block kX
      clear kX
      by_cases hlt : k < ts.length
      · obtain ⟨b', off', a', c', rfl, c0, c1, c2, hf⟩ := (HFS.out.go hbel.out).at k hlt
        have HF := hidIt hf
        have HYw := hidIt (HY.out.go hbel.out)
        have HM : Hid (ts[k] ∈ ts) := List.getElem_mem hlt
        have HT := hidIt (take_all (p := valueB (inB l)) ts k hlt)
        have HAT := hidIt (all_false (p := valueB (inB l)) ts k hlt)
        have hlt0 : (k : Int) < (ts.length : Int) := by omega
        have hk0 : (0 : Int) ≤ (k : Int) := by omega
        clear hf
        generalize ts[k] = t at *
        go_wp2_with fail
        refine (IH.out t HM.out _ _ _ _ HF.out HYw.out).mono ?_
        rintro e w5 ⟨rfl, h5⟩
        have HB5 := hidIt (hbel.out.trans (Below.mono h5 hbel.out.size))
        clear h5
        generalize valueB (inB l) t = p at *
        cases p
        · go_wp2_with fail
          go_ret
          exact ⟨ret_bool (HE.out.trans (HAT.out trivial)).symm, HB.out.trans (Below.mono HB5.out HB.out.size)⟩
        · go_wp2_with fail
          go_roundw
          case rel => exact ⟨k + 1, by omega, by go_num, by show _ = _; rw [HT.out, hno.out]; rfl, HB5.out⟩
          case measure => simp [intOf]; omega
      · go_wp2_with fail
        go_ret
        exact ⟨ret_bool (by rw [HE.out, ← hno.out, List.take_of_length_le (by omega)]), HBw.out⟩
  · have HE : Hid (valueB (inB l) (.node 6 name ts) = ts.any (valueB (inB l))) := by show _ = _; simp [valueB, valuesB_map, List.any_map]
    clear h4 h5 h7
    have hnn : (0 : Int) ≤ ts.length := by omega
    go_enter Tryz.func57, Tryz.ntmps57
    go_wp2_with fail
    rw [← HO.out]
    generalize w.alloc O = W at *
    have HY := hidIt (HY0.out.go HB.out)
    have HFS := hidIt (HF0.out.go HB.out)
    rw [HO.out] at HX
    go_loopw [7] (fun i wr => ∃ k : Nat, k ≤ ts.length ∧ i = .int .i64 k ∧ Hid ((ts.take k).any (valueB (inB l)) = false) ∧ Hid (Below W.heap.size W wr)) (fun i _ => ts.length - (intOf i).toNat)
    case atStart => exact ⟨0, Nat.zero_le _, rfl, rfl, Below.refl _ _⟩
    case round =>
      obtain ⟨k, hk, rfl, hno, hbel⟩ := hrel
      have HBw := hidIt (HB.out.trans (Below.mono hbel.out HB.out.size))
      have kX := blk_kept HX.out hbel.out
      obtain ⟨x0, x1, x2⟩ := cell_of3 kX
      have hlx := lt_of_block kX
      clear kX
      by_cases hlt : k < ts.length
      · obtain ⟨b', off', a', c', rfl, c0, c1, c2, hf⟩ := (HFS.out.go hbel.out).at k hlt
        have HF := hidIt hf
        have HYw := hidIt (HY.out.go hbel.out)
        have HM : Hid (ts[k] ∈ ts) := List.getElem_mem hlt
        have HT := hidIt (take_any (p := valueB (inB l)) ts k hlt)
        have HAT := hidIt (any_true (p := valueB (inB l)) ts k hlt)
        have hlt0 : (k : Int) < (ts.length : Int) := by omega
        have hk0 : (0 : Int) ≤ (k : Int) := by omega
        clear hf
        generalize ts[k] = t at *
        go_wp2_with fail
        refine (IH.out t HM.out _ _ _ _ HF.out HYw.out).mono ?_
        rintro e w5 ⟨rfl, h5⟩
        have HB5 := hidIt (hbel.out.trans (Below.mono h5 hbel.out.size))
        clear h5
        generalize valueB (inB l) t = p at *
        cases p
        · go_wp2_with fail
          go_roundw
          case rel => exact ⟨k + 1, by omega, by go_num, by show _ = _; rw [HT.out, hno.out]; rfl, HB5.out⟩
          case measure => simp [intOf]; omega
        · go_wp2_with fail
          go_ret
          exact ⟨ret_bool (HE.out.trans (HAT.out trivial)).symm, HB.out.trans (Below.mono HB5.out HB.out.size)⟩
      · go_wp2_with fail
        go_ret
        exact ⟨ret_bool (by rw [HE.out, ← hno.out, List.take_of_length_le (by omega)]), HBw.out⟩
  · obtain ⟨t, u, rfl⟩ : ∃ t u, ts = [t, u] := two_of (h7 (.inl rfl))
    have HE : Hid (valueB (inB l) (.node 7 name [t, u]) = (!(valueB (inB l) t) || valueB (inB l) u)) := by show _ = _; simp [valueB, valuesB]
    have hO := HO.out
    subst hO
    obtain ⟨b', off', a', c', rfl, c0, c1, c2, hf⟩ := (HF0.out.go HB.out).at 0 (by simp)
    obtain ⟨b2, off2, a2, c2', e2, d0, d1, d2, hf2⟩ := (HF0.out.go HB.out).at 1 (by simp)
    obtain ⟨rfl, rfl⟩ : b2 = b' ∧ off2 = off' := by
      injection e2 with e2
      injection e2 with e3 e4
      exact ⟨e3.symm, e4.symm⟩
    simp only [List.getElem_cons_zero, List.getElem_cons_succ, Nat.zero_mul, Nat.add_zero, Nat.one_mul] at c0 c1 c2 hf d0 d1 d2 hf2
    simp only [List.length_cons, List.length_nil, Nat.zero_add, Nat.reduceAdd] at *
    have HF := hidIt hf
    have HF2 := hidIt hf2
    have HY := hidIt (HY0.out.go HB.out)
    have HT := hidIt (IH.out t (by simp))
    have HU := hidIt (IH.out u (by simp))
    clear hf hf2 h4 h5 h7 IH HF0 HY0 e2
    go_enter Tryz.func57, Tryz.ntmps57
    go_wp2_with fail
    refine (HT.out _ _ _ _ HF.out HY.out).mono ?_
    rintro e w5 ⟨rfl, h5⟩
    have HB5 := hidIt (HB.out.trans (Below.mono h5 HB.out.size))
    have HF5 := hidIt (hidIt (FormAt.go HF2.out h5)).out
    have HY5 := hidIt (HY.out.go h5)
    have HX5 := hidIt (blk_kept HX.out h5)
    have e0 := (h5.cell (p := ⟨b2, off2 + 3, none⟩) (World.block_lt_of_cell? _ ⟨b2, off2 + 3, none⟩ d0)).trans d0
    have e1 := (h5.cell (p := ⟨b2, off2 + 3 + 1, none⟩) (World.block_lt_of_cell? _ ⟨b2, off2 + 3, none⟩ d0)).trans d1
    have e2 := (h5.cell (p := ⟨b2, off2 + 3 + 2, none⟩) (World.block_lt_of_cell? _ ⟨b2, off2 + 3, none⟩ d0)).trans d2
    clear h5 c0 c1 c2 d0 d1 d2
    obtain ⟨x0, x1, x2⟩ := cell_of3 HX5.out
    have hlx := lt_of_block HX5.out
    generalize valueB (inB l) t = p at *
    cases p
    · go_wp2_with fail
      go_ret
      exact ⟨ret_bool HE.out.symm, HB5.out⟩
    · go_wp2_with fail
      refine (HU.out _ _ _ _ HF5.out HY5.out).mono ?_
      rintro e w6 ⟨rfl, h6⟩
      have HB6 := hidIt (HB5.out.trans (Below.mono h6 HB5.out.size))
      clear h6
      generalize valueB (inB l) u = q at *
      go_wp2_with fail
      go_ret
      exact ⟨ret_bool HE.out.symm, HB6.out⟩
  · obtain ⟨t, u, rfl⟩ : ∃ t u, ts = [t, u] := two_of (h7 (.inr rfl))
    have HE : Hid (valueB (inB l) (.node 8 name [t, u]) = (valueB (inB l) t == valueB (inB l) u)) := by show _ = _; simp [valueB, valuesB]
    have hO := HO.out
    subst hO
    obtain ⟨b', off', a', c', rfl, c0, c1, c2, hf⟩ := (HF0.out.go HB.out).at 0 (by simp)
    obtain ⟨b2, off2, a2, c2', e2, d0, d1, d2, hf2⟩ := (HF0.out.go HB.out).at 1 (by simp)
    obtain ⟨rfl, rfl⟩ : b2 = b' ∧ off2 = off' := by
      injection e2 with e2
      injection e2 with e3 e4
      exact ⟨e3.symm, e4.symm⟩
    simp only [List.getElem_cons_zero, List.getElem_cons_succ, Nat.zero_mul, Nat.add_zero, Nat.one_mul] at c0 c1 c2 hf d0 d1 d2 hf2
    simp only [List.length_cons, List.length_nil, Nat.zero_add, Nat.reduceAdd] at *
    have HF := hidIt hf
    have HF2 := hidIt hf2
    have HY := hidIt (HY0.out.go HB.out)
    have HT := hidIt (IH.out t (by simp))
    have HU := hidIt (IH.out u (by simp))
    clear hf hf2 h4 h5 h7 IH HF0 HY0 e2
    go_enter Tryz.func57, Tryz.ntmps57
    go_wp2_with fail
    generalize hWa : (w.alloc (.cells #[.int .i64 8, .string name, .slice (some ⟨b2, off2, none⟩) 2 cap] 24)) = W at *
    clear hWa
    obtain ⟨-, -, x2⟩ := cell_of3 HX.out
    have hlx := lt_of_block HX.out
    have K0 : ∀ wx, Ext W wx → wx.cell? ⟨b2, off2, none⟩ = some (.int .i64 t.op) := fun wx hw => Ext.cell c0 ⟨wx, hw⟩
    have K1 : ∀ wx, Ext W wx → wx.cell? ⟨b2, off2 + 1, none⟩ = some (.string t.name) := fun wx hw => Ext.cell c1 ⟨wx, hw⟩
    have K2 : ∀ wx, Ext W wx → wx.cell? ⟨b2, off2 + 2, none⟩ = some (.slice a' t.args.length c') := fun wx hw => Ext.cell c2 ⟨wx, hw⟩
    have L0 : ∀ wx, Ext W wx → wx.cell? ⟨b2, off2 + 3, none⟩ = some (.int .i64 u.op) := fun wx hw => Ext.cell d0 ⟨wx, hw⟩
    have L1 : ∀ wx, Ext W wx → wx.cell? ⟨b2, off2 + 3 + 1, none⟩ = some (.string u.name) := fun wx hw => Ext.cell d1 ⟨wx, hw⟩
    have L2 : ∀ wx, Ext W wx → wx.cell? ⟨b2, off2 + 3 + 2, none⟩ = some (.slice a2 u.args.length c2') := fun wx hw => Ext.cell d2 ⟨wx, hw⟩
    have M2 : ∀ wx, Ext W wx → wx.cell? ⟨w.heap.size, 2, none⟩ = some (.slice (some ⟨b2, off2, none⟩) 2 cap) := fun wx hw => Ext.cell x2 ⟨wx, hw⟩
    have hbl := World.block_lt_of_cell? _ ⟨b2, off2, none⟩ c0
    have HT2 : Hid (∀ wx, Ext W wx → Calls Tryz.prog 57 #[.agg #[.int .i64 t.op, .string t.name, .slice a' t.args.length c'], .slice ya l.length yc] wx fun e w'' => ∃ z, e = .returned z ∧ Ext W w'' ∧ Grows wx w'' ∧ isB (valueB (inB l) t) z w'') := fun wx hC => rel_call hC ((HT.out _ _ _ _ (hC.form HF.out) (HY.out.go hC)).mono fun e w'' ⟨he, hb⟩ => ⟨_, he, rfl, hb⟩)
    have HU2 : Hid (∀ wx, Ext W wx → Calls Tryz.prog 57 #[.agg #[.int .i64 u.op, .string u.name, .slice a2 u.args.length c2'], .slice ya l.length yc] wx fun e w'' => ∃ z, e = .returned z ∧ Ext W w'' ∧ Grows wx w'' ∧ isB (valueB (inB l) u) z w'') := fun wx hC => rel_call hC ((HU.out _ _ _ _ (hC.form HF2.out) (HY.out.go hC)).mono fun e w'' ⟨he, hb⟩ => ⟨_, he, rfl, hb⟩)
    generalize valueB (inB l) t = p at *
    generalize valueB (inB l) u = q at *
    clear c0 c1 c2 d0 d1 d2 x2 HT HU HF HF2 HY
    haveI : Nonempty (In (Ext W)) := Ext.nonempty W
    refine wp_region_rel (Ext W) Grows (relTab [(93, isB p), (99, isB q)]) (by kernel_rfl) (by kernel_rfl) (by kernel_rfl) (stable_cons (isB_up _) (stable_cons (isB_up _) (stable_nil _))) (Ext.start W) ?_
    repeat (
      refine' walkR_plain (by kernel_rfl) rfl rfl (fun wx hC hL => ?_) ?_
      rotate_left
      · (have hlw := Nat.lt_of_lt_of_le hlx (Below.size hC)
         have hlg := Nat.lt_of_lt_of_le hbl (Below.size hC)
         simp only [K0 wx hC, K1 wx hC, K2 wx hC, L0 wx hC, L1 wx hC, L2 wx hC, M2 wx hC, hlw, hlg, go_sem]; first | done | (go_simp; exact ⟨rfl, rfl⟩))
      simp only [Act.put, List.setIfInBounds_toArray, List.set_cons_zero, List.set_cons_succ])
    refine walkR_rel (by kernel_rfl) rfl rfl (of_decide_eq_true (by kernel_rfl)) (fun wx hC hL => ?_) (fun v hv => ?_)
    · go_simp
      exact HT2.out wx hC
    obtain ⟨_, _, rfl⟩ := hv
    simp only [Act.put, List.setIfInBounds_toArray, List.set_cons_zero, List.set_cons_succ]
    repeat (
      refine' walkR_plain (by kernel_rfl) rfl rfl (fun wx hC hL => ?_) ?_
      rotate_left
      · (have hlw := Nat.lt_of_lt_of_le hlx (Below.size hC)
         have hlg := Nat.lt_of_lt_of_le hbl (Below.size hC)
         simp only [K0 wx hC, K1 wx hC, K2 wx hC, L0 wx hC, L1 wx hC, L2 wx hC, M2 wx hC, hlw, hlg, go_sem]; first | done | (go_simp; exact ⟨rfl, rfl⟩))
      simp only [Act.put, List.setIfInBounds_toArray, List.set_cons_zero, List.set_cons_succ])
    refine walkR_rel (by kernel_rfl) rfl rfl (of_decide_eq_true (by kernel_rfl)) (fun wx hC hL => ?_) (fun v hv => ?_)
    · go_simp
      exact HU2.out wx hC
    obtain ⟨_, _, rfl⟩ := hv
    simp only [Act.put, List.setIfInBounds_toArray, List.set_cons_zero, List.set_cons_succ]
    repeat (
      refine' walkR_plain (by kernel_rfl) rfl rfl (fun wx hC hL => ?_) ?_
      rotate_left
      · (have hlw := Nat.lt_of_lt_of_le hlx (Below.size hC)
         have hlg := Nat.lt_of_lt_of_le hbl (Below.size hC)
         simp only [K0 wx hC, K1 wx hC, K2 wx hC, L0 wx hC, L1 wx hC, L2 wx hC, M2 wx hC, hlw, hlg, go_sem]; first | done | (go_simp; exact ⟨rfl, rfl⟩))
      simp only [Act.put, List.setIfInBounds_toArray, List.set_cons_zero, List.set_cons_succ])
    refine fun w10 hC10 _ => ?_
    have HB10 := hidIt (HB.out.trans (Below.mono hC10 HB.out.size))
    clear hC10 K0 K1 K2 L0 L1 L2 M2
    go_wp2_with fail
    go_ret
    exact ⟨ret_bool HE.out.symm, HB10.out⟩

set_option maxRecDepth 100000 in
set_option maxHeartbeats 1000000 in
/-- The reference's Eval. -/
theorem qeval_any (t : Tree) (v : Value) (ya : Option Addr) (yc : Nat) (l : List ByteArray) (hl : l.length ≤ 1000000) (w : World) (h : FormAt w none v t) (hy : StrsIn w (fun _ => True) ya l) :
    Calls Tryz.prog 15 #[v, .slice ya l.length yc] w fun e w' => e = .returned (.bool (evalB t l)) ∧ Below w.heap.size w w' := by
  obtain ⟨a, cap, b, off, rfl, hop, hname, hlen, hcap, -, -⟩ := h.form
  have hb0 : Below w.heap.size w (w.alloc (.cells #[.int .i64 t.op, .string t.name, .slice a t.args.length cap] 24)) := Grows.alloc _ _
  have HF := hidIt (FormAt.go h hb0)
  have HY := hidIt (hy.go hb0)
  have HX := hidIt (heap_alloc_new w (.cells #[.int .i64 t.op, .string t.name, .slice a t.args.length cap] 24))
  have HB := hidIt hb0
  have HE : Hid (evalB t l = (wellF t && valueB (inB l) t)) := rfl
  have HW := hidIt (wellF_split t)
  have HV := hidIt (qvalue_any l hl t)
  clear h hy hb0 hop hname hlen hcap
  go_enter Tryz.func15, Tryz.ntmps15
  go_wp2_with fail
  generalize hWa : (w.alloc (.cells #[.int .i64 t.op, .string t.name, .slice a t.args.length cap] 24)) = W at *
  clear hWa
  refine (qkinds_any t _ _ HF.out).mono ?_
  rintro e w1 ⟨rfl, h1⟩
  have HF1 := hidIt (HF.out.go h1)
  have HY1 := hidIt (HY.out.go h1)
  have HX1 := hidIt (blk_kept HX.out h1)
  have HB1 := hidIt (HB.out.trans (Below.mono h1 HB.out.size))
  clear h1 HF HY HX HB
  obtain ⟨x0, x1, x2⟩ := cell_of3 HX1.out
  have hlx := lt_of_block HX1.out
  generalize t.all kindB = kk at *
  cases kk
  · go_wp2_with fail
    go_ret
    exact ⟨ret_bool (by rw [HE.out, HW.out]; simp), HB1.out⟩
  · go_wp2_with fail
    refine (qnames_any t _ _ HF1.out).mono ?_
    rintro e w2 ⟨rfl, h2⟩
    have HF2 := hidIt (HF1.out.go h2)
    have HY2 := hidIt (HY1.out.go h2)
    have HX2 := hidIt (blk_kept HX1.out h2)
    have HB2 := hidIt (HB1.out.trans (Below.mono h2 HB1.out.size))
    clear h2 HF1 HY1 HX1 HB1 x0 x1 x2 hlx
    obtain ⟨x0, x1, x2⟩ := cell_of3 HX2.out
    have hlx := lt_of_block HX2.out
    generalize t.all nameB = kn at *
    cases kn
    · go_wp2_with fail
      go_ret
      exact ⟨ret_bool (by rw [HE.out, HW.out]; simp), HB2.out⟩
    · go_wp2_with fail
      refine (HV.out trivial _ _ _ _ HF2.out HY2.out).mono ?_
      rintro e w3 ⟨rfl, h3⟩
      have HB3 := hidIt (HB2.out.trans (Below.mono h3 HB2.out.size))
      clear h3
      generalize valueB (inB l) t = q at *
      go_wp2_with fail
      go_ret
      exact ⟨ret_bool (by rw [HE.out, HW.out]; simp), HB3.out⟩
end Go.Proofs.YtilkpjcbmllgmaaGreatDoor

namespace Go.Proofs.YtilkpjcbmllgmaaGreatDoor
set_option linter.unusedVariables false
set_option linter.unusedSimpArgs false
open Go Go.RowKit

theorem below_rowO {w w1 w2 : World} {row : Option Nat} (h : Below w.heap.size w w1) (hg : w1.grownBy w2 row) (hr : ∀ g, row = some g → w.heap.size ≤ g) : Below w.heap.size w w2 := by
  cases row with
  | none => exact below_of_row2 (b := w.heap.size) h ⟨hg.os, hg.tape, hg.output, hg.size, fun i hi _ => hg.block i hi (by simp)⟩ (Nat.le_refl _)
  | some g => exact below_of_row2 h hg (hr g rfl)

set_option maxRecDepth 100000 in
set_option maxHeartbeats 2000000 in
theorem qcopy_any : ∀ t : Tree, t.nodes ≤ 1000000 → ∀ (v : Value) (w : World), FormAt w none v t → Calls Tryz.prog 62 #[v] w (FMade w t) := by
  refine Tree.ind fun op name ts ih hn v w hv => ?_
  obtain ⟨a0, cap0, -, -, rfl, hop, hname, hlen, hcap, -, -⟩ := hv.form
  simp only [Tree.op_node, Tree.name_node, Tree.args_node] at *
  have HFS : Hid (FormsAt w none a0 ts) := hv.forms
  have hlt0 : ts.length ≤ 1000000 := by have h1 := nodes_len_le ts; simp only [Tree.nodes] at hn; omega
  have IH : Hid (∀ t ∈ ts, ∀ (v : Value) (w : World), FormAt w none v t → Calls Tryz.prog 62 #[v] w (FMade w t)) := fun t ht v w h => ih t ht (by
    obtain ⟨i, hi, rfl⟩ := List.mem_iff_getElem.1 ht
    have h1 := nodesL_take ts i hi
    have h2 := nodesL_take_le ts (i + 1)
    simp only [Tree.nodes] at hn
    omega) v w h
  have HOP := hidIt hop
  have HNM := hidIt hname
  clear ih hn hv hop hname
  go_enter Tryz.func62, Tryz.ntmps62
  go_wp2_with fail
  have HX0 : Hid ((((w.alloc (.cells #[.int .i64 op, .string name, .slice a0 ts.length cap0] 24)).alloc (.cells #[.int .i64 0, .string ⟨#[]⟩, .slice none 0 0] 24)).alloc (.cells #[.int .i64 op, .string name, .slice none 0 0] 24)).heap[w.heap.size]? = some (.cells #[.int .i64 op, .string name, .slice a0 ts.length cap0] 24 (0, 0))) := blk_kept (blk_kept (heap_alloc_new w _) (Grows.alloc _ _)) (Grows.alloc _ _)
  have HR0 : Hid ((((w.alloc (.cells #[.int .i64 op, .string name, .slice a0 ts.length cap0] 24)).alloc (.cells #[.int .i64 0, .string ⟨#[]⟩, .slice none 0 0] 24)).alloc (.cells #[.int .i64 op, .string name, .slice none 0 0] 24)).heap[w.heap.size + 1]? = some (.cells #[.int .i64 0, .string ⟨#[]⟩, .slice none 0 0] 24 (0, 0))) := blk_kept (heap_alloc_at (by simp)) (Grows.alloc _ _)
  have HP0 : Hid ((((w.alloc (.cells #[.int .i64 op, .string name, .slice a0 ts.length cap0] 24)).alloc (.cells #[.int .i64 0, .string ⟨#[]⟩, .slice none 0 0] 24)).alloc (.cells #[.int .i64 op, .string name, .slice none 0 0] 24)).heap[w.heap.size + 1 + 1]? = some (.cells #[.int .i64 op, .string name, .slice none 0 0] 24 (0, 0))) := heap_alloc_at (by simp)
  have HB0 : Hid (Below w.heap.size w (((w.alloc (.cells #[.int .i64 op, .string name, .slice a0 ts.length cap0] 24)).alloc (.cells #[.int .i64 0, .string ⟨#[]⟩, .slice none 0 0] 24)).alloc (.cells #[.int .i64 op, .string name, .slice none 0 0] 24))) := (((Below.refl _ _).alloc (Nat.le_refl _) _).alloc (by simp) _).alloc (by simp; omega) _
  generalize (((w.alloc (.cells #[.int .i64 op, .string name, .slice a0 ts.length cap0] 24)).alloc (.cells #[.int .i64 0, .string ⟨#[]⟩, .slice none 0 0] 24)).alloc (.cells #[.int .i64 op, .string name, .slice none 0 0] 24)) = W at *
  go_loopw [4] (fun i wr => ∃ (k : Nat) (a : Option Addr) (c : Nat), k ≤ ts.length ∧ i = .int .i64 k ∧ Hid (wr.heap[w.heap.size + 1 + 1]? = some (.cells #[.int .i64 op, .string name, .slice a k c] 24 (0, 0))) ∧ Hid (OwnF wr (w.heap.size + 1 + 1 + 1) (.slice a k c) (ts.take k)) ∧
    Hid (wr.heap[w.heap.size]? = some (.cells #[.int .i64 op, .string name, .slice a0 ts.length cap0] 24 (0, 0))) ∧ Hid (wr.heap[w.heap.size + 1]? = some (.cells #[.int .i64 0, .string ⟨#[]⟩, .slice none 0 0] 24 (0, 0))) ∧ Hid (Below w.heap.size w wr)) (fun i _ => ts.length - (intOf i).toNat)
  case atStart => exact ⟨0, none, 0, Nat.zero_le _, rfl, HP0.out, OwnF.nil _ _, HX0.out, HR0.out, HB0.out⟩
  case round =>
    clear HX0 HR0 HP0 HB0
    obtain ⟨k, a, c, hk, rfl, hP, hO, hX, hR, hbel⟩ := hrel
    obtain ⟨x0, x1, x2⟩ := cell_of3 hX.out
    obtain ⟨p0, p1, p2⟩ := cell_of3 hP.out
    obtain ⟨g0, g1, g2⟩ := cells_free hP.out
    have hlx := lt_of_block hX.out
    have hlp := lt_of_block hP.out
    by_cases hlt : k < ts.length
    · obtain ⟨b', off', a', c', rfl, c0, c1, c2, hf⟩ := (HFS.out.go hbel.out).at k hlt
      have HM : Hid (ts[k] ∈ ts) := List.getElem_mem hlt
      have HTK : Hid (ts.take (k + 1) = ts.take k ++ [ts[k]]) := List.take_succ_eq_append_getElem hlt
      have HF := hidIt hf
      have hltk : (ts.take k).length = k := by simp; omega
      have hlt1 : (k : Int) < (ts.length : Int) := by omega
      have hk0 : (0 : Int) ≤ (k : Int) := by omega
      clear hf
      generalize ts[k] = t at *
      generalize ts.take k = us at *
      go_wp2_with fail
      have HO : Hid (OwnF wr.drew (w.heap.size + 1 + 1 + 1) (.slice a k c) us) := hO.out.go (Below.refl _ _).drew
      have HP := hidIt (blk_kept hP.out (Below.refl _ _).drew)
      have HFd : Hid (FormAt wr.drew none (.agg #[.int .i64 t.op, .string t.name, .slice a' t.args.length c']) t) := FormAt.go HF.out (Below.refl _ _).drew
      have hwl : w.heap.size + 1 + 1 < wr.drew.heap.size := lt_of_block HP.out
      clear p0 p1 g0 g1
      go_region_law (first
        | ((refine step_append_form (by rfl) (.tmp 18) (.tmp 25) (by rfl) (w.heap.size + 1 + 1 + 1) (.slice a k c) us (by rfl) ((HO.out.go hb2).alloc _) _ 1 (by rfl) (heap_alloc_new w2 _) t (form_for hf2 HO.out (by omega) _) (by omega) (by have := hb2.size; simp; omega) ?_); intro a5 c5 w5 hown5 hg5; have hp5 := (hg5.block (w.heap.size + 1 + 1) (lt_of_block (blk_kept (blk_kept HP.out hb2) (Grows.alloc _ _))) (fun e => by have := (HO.out.block _ e.symm).1; omega)).trans (blk_kept (blk_kept HP.out hb2) (Grows.alloc _ _)); have x5 := (cell_of3 hp5).2.2; have y5 := (cells_free hp5).2.2; have l5 := lt_of_block hp5)
        | (go_simp; go_at_call 62; refine (IH.out t HM.out _ _ HFd.out).mono ?_; rintro e w2 ⟨o', s', a2, n2, c2', rfl, hf2, hb2⟩; have p2' := (cell_of3 (blk_kept HP.out hb2)).2.2; have lp2 := lt_of_block (blk_kept HP.out hb2)))
      all_goals
        have hset : w5.grownBy (w5.setCell ⟨w.heap.size + 1 + 1, 2, none⟩ (.slice a5 (us.length + 1) c5)) (some (w.heap.size + 1 + 1)) := only_setCell (p := ⟨w.heap.size + 1 + 1, 2, none⟩) (only_refl w5 (some (w.heap.size + 1 + 1))) (.inl rfl) _
        have hb5 : Below w.heap.size w w5 := below_rowO (((hbel.out.trans (Below.mono (Below.refl _ _).drew hbel.out.size)).trans (Below.mono hb2 (by have := hbel.out.size; simpa using this))).alloc (by have := hb2.size; have := hbel.out.size; simp at *; omega) _) hg5 (fun g e => by have := (HO.out.block _ e).1; omega)
        have HB6 := hidIt (below_of_row2 (b := w.heap.size + 1 + 1) hb5 hset (by omega))
        have HO6 := hidIt (hown5.kept hset (fun g e => by injection e with e; omega))
        have hx5 := (hg5.block (w.heap.size) (lt_of_block (blk_kept (blk_kept (blk_kept hX.out (Below.refl _ _).drew) hb2) (Grows.alloc _ _))) (fun e => by have := (HO.out.block _ e.symm).1; omega)).trans (blk_kept (blk_kept (blk_kept hX.out (Below.refl _ _).drew) hb2) (Grows.alloc _ _))
        have hr5 := (hg5.block (w.heap.size + 1) (lt_of_block (blk_kept (blk_kept (blk_kept hR.out (Below.refl _ _).drew) hb2) (Grows.alloc _ _))) (fun e => by have := (HO.out.block _ e.symm).1; omega)).trans (blk_kept (blk_kept (blk_kept hR.out (Below.refl _ _).drew) hb2) (Grows.alloc _ _))
        have HX6 := hidIt ((hset.block _ (lt_of_block hx5) (fun e => by injection e with e; omega)).trans hx5)
        have HR6 := hidIt ((hset.block _ (lt_of_block hr5) (fun e => by injection e with e; omega)).trans hr5)
        have HP6 : Hid ((w5.setCell ⟨w.heap.size + 1 + 1, 2, none⟩ (.slice a5 (us.length + 1) c5)).heap[w.heap.size + 1 + 1]? = some (.cells #[.int .i64 op, .string name, .slice a5 (us.length + 1) c5] 24 (0, 0))) := setCell_heap_self hp5 _
        clear hset hb5 hown5 hx5 hr5 hp5 hg5 hf2 hb2 p2' lp2 x0 x1 x2 p2 g2 c0 c1 c2
        go_wp2_with fail
        go_roundw
        case rel => exact ⟨k + 1, a5, c5, by omega, by go_num, by rw [← hltk]; exact HP6.out, by rw [HTK.out, ← hltk]; exact HO6.out, by rw [← hltk]; exact HX6.out, by rw [← hltk]; exact HR6.out, by rw [← hltk]; exact HB6.out⟩
        case measure => simp [intOf]; omega
    · obtain rfl : k = ts.length := by omega
      obtain ⟨r0, r1, r2⟩ := cell_of3 hR.out
      obtain ⟨f0, f1, f2⟩ := cells_free hR.out
      have hlr := lt_of_block hR.out
      rw [List.take_length] at hO
      go_wp2_with fail
      refine bodyPost_ret (v := .agg #[.int .i64 op, .string name, .slice a ts.length c]) (by simp [results, Tryz.results62, go_sem, r0, r1, r2, hlr]) rfl ?_
      have h3 := set_three wr (w.heap.size + 1) (.int .i64 op) (.string name) (.slice a ts.length c)
      obtain ⟨a', c', e, hc1, hc2, hfs⟩ := hO.out.form
      injection e with e1 e2 e3
      subst e1 e3
      refine ⟨op, name, _, _, _, rfl, FormIn.mk (FormsIn.mono (FormsIn.kept hfs (fun i hi hl => h3.block i hl (fun e => by injection e with e; omega))) (fun i _ hi => by omega)) rfl HOP.out HNM.out hc1 hc2, below_of_row2 hbel.out h3 (by omega)⟩
end Go.Proofs.YtilkpjcbmllgmaaGreatDoor

namespace Go.Proofs.YtilkpjcbmllgmaaGreatDoor
set_option linter.unusedVariables false
set_option linter.unusedSimpArgs false
open Go Go.RowKit

theorem FMade.later {w w0 : World} {t : Tree} {e : Ending} {w' : World} (h : FMade w0 t e w') (hb : Below w.heap.size w w0) : FMade w t e w' := by
  obtain ⟨o, s, a, n, c, he, hf, hb'⟩ := h
  exact ⟨o, s, a, n, c, he, hf.mono fun i _ hi => Nat.le_trans hb.size hi, hb.trans (Below.mono hb' hb.size)⟩

set_option maxRecDepth 100000 in
set_option maxHeartbeats 4000000 in
theorem qsubst_any (q : ByteArray) (hq : q.size ≤ maxLen) (G : Tree) (hG : G.nodes ≤ 1000000) : ∀ t : Tree, t.nodes ≤ 1000000 → ∀ (v vg : Value) (w : World), FormAt w none v t → FormAt w none vg G → Calls Tryz.prog 20 #[v, .string q, vg] w (FMade w (substT q G t)) := by
  refine Tree.ind fun op name ts ih hn v vg w hv hg => ?_
  obtain ⟨a0, cap0, -, -, rfl, hop, hname, hlen, hcap, -, -⟩ := hv.form
  obtain ⟨ga, gc, -, -, rfl, -, -, -, -, -, -⟩ := hg.form
  simp only [Tree.op_node, Tree.name_node, Tree.args_node] at *
  have HFS : Hid (FormsAt w none a0 ts) := hv.forms
  have HGF := hidIt hg
  have hlt0 : ts.length ≤ 1000000 := by have h1 := nodes_len_le ts; simp only [Tree.nodes] at hn; omega
  have IH : Hid (∀ t ∈ ts, ∀ (v vg : Value) (w : World), FormAt w none v t → FormAt w none vg G → Calls Tryz.prog 20 #[v, .string q, vg] w (FMade w (substT q G t))) := fun t ht v vg w h h' => ih t ht (by
    have := nodes_mem_le ht
    simp only [Tree.nodes] at hn
    omega) v vg w h h'
  have HOP := hidIt hop
  have HNM := hidIt hname
  have HCP := hidIt (qcopy_any G hG)
  have HST := hidIt (substT_node q G op name ts)
  generalize G.op = go at *
  generalize G.name = gs at *
  generalize G.args.length = gn at *
  clear ih hn hv hop hname hg hG
  by_cases hat : op = 3 ∧ ts.length = 0
  case pos =>
    obtain ⟨rfl, hz⟩ := hat
    obtain rfl : ts = [] := List.eq_nil_of_length_eq_zero hz
    clear hz
    simp only [List.length_nil] at *
    have HB0 : Hid (Below w.heap.size w (((w.alloc (.cells #[.int .i64 3, .string name, .slice a0 0 cap0] 24)).alloc (.cells #[.int .i64 go, .string gs, .slice ga gn gc] 24)).alloc (.cells #[.int .i64 0, .string ⟨#[]⟩, .slice none 0 0] 24))) := (((Below.refl _ _).alloc (Nat.le_refl _) _).alloc (by simp) _).alloc (by simp; omega) _
    have HX0 : Hid ((((w.alloc (.cells #[.int .i64 3, .string name, .slice a0 0 cap0] 24)).alloc (.cells #[.int .i64 go, .string gs, .slice ga gn gc] 24)).alloc (.cells #[.int .i64 0, .string ⟨#[]⟩, .slice none 0 0] 24)).heap[w.heap.size]? = some (.cells #[.int .i64 3, .string name, .slice a0 0 cap0] 24 (0, 0))) := blk_kept (blk_kept (heap_alloc_new w _) (Grows.alloc _ _)) (Grows.alloc _ _)
    have HV0 : Hid ((((w.alloc (.cells #[.int .i64 3, .string name, .slice a0 0 cap0] 24)).alloc (.cells #[.int .i64 go, .string gs, .slice ga gn gc] 24)).alloc (.cells #[.int .i64 0, .string ⟨#[]⟩, .slice none 0 0] 24)).heap[w.heap.size + 1]? = some (.cells #[.int .i64 go, .string gs, .slice ga gn gc] 24 (0, 0))) := blk_kept (heap_alloc_at (by simp)) (Grows.alloc _ _)
    have HR0 : Hid ((((w.alloc (.cells #[.int .i64 3, .string name, .slice a0 0 cap0] 24)).alloc (.cells #[.int .i64 go, .string gs, .slice ga gn gc] 24)).alloc (.cells #[.int .i64 0, .string ⟨#[]⟩, .slice none 0 0] 24)).heap[w.heap.size + 1 + 1]? = some (.cells #[.int .i64 0, .string ⟨#[]⟩, .slice none 0 0] 24 (0, 0))) := heap_alloc_at (by simp)
    by_cases hnq : name = q
    · subst hnq
      rw [if_pos (by simp)] at HST
      rw [HST.out]
      clear HST IH HFS HNM HOP
      go_enter Tryz.func20, Tryz.ntmps20
      go_wp2_with fail
      have hsz : w.heap.size + 1 + 1 < (((w.alloc (.cells #[.int .i64 3, .string name, .slice a0 0 cap0] 24)).alloc (.cells #[.int .i64 go, .string gs, .slice ga gn gc] 24)).alloc (.cells #[.int .i64 0, .string ⟨#[]⟩, .slice none 0 0] 24)).heap.size := lt_of_block HR0.out
      generalize (((w.alloc (.cells #[.int .i64 3, .string name, .slice a0 0 cap0] 24)).alloc (.cells #[.int .i64 go, .string gs, .slice ga gn gc] 24)).alloc (.cells #[.int .i64 0, .string ⟨#[]⟩, .slice none 0 0] 24)) = W at *
      refine (HCP.out _ _ (FormAt.go HGF.out HB0.out)).mono ?_
      rintro e w2 ⟨ro, rs, ra, rn, rc, rfl, hf2, hb2⟩
      have HF2 := hidIt hf2
      have HB2 := hidIt hb2
      have HY2 := hidIt (blk_kept HR0.out hb2)
      obtain ⟨y0, y1, y2⟩ := cell_of3 HY2.out
      obtain ⟨z0, z1, z2⟩ := cells_free HY2.out
      have hly := lt_of_block HY2.out
      clear hf2 hb2
      go_wp2_with fail
      refine bodyPost_ret (v := .agg #[.int .i64 ro, .string rs, .slice ra rn rc]) (by simp [results, Tryz.results20, go_sem, y0, y1, y2, hly]) rfl ?_
      exact FMade.stored HB0.out (by omega) hsz HF2.out HB2.out
    · rw [if_neg (fun h => hnq h.2.2)] at HST
      have hyf : (name.toList == q.toList) = false := by
        rw [beq_eq_false_iff_ne]
        intro e
        rw [Lib.toList_data, Lib.toList_data] at e
        exact hnq (ByteArray.ext (Array.toList_inj.1 e))
      rw [HST.out]
      clear HST IH HFS hnq
      go_enter Tryz.func20, Tryz.ntmps20
      go_wp2_with fail
      refine bodyPost_ret (v := .agg #[.int .i64 3, .string name, .slice a0 0 cap0]) (by simp [results, Tryz.results20, go_sem]) rfl ?_
      exact ⟨3, name, _, _, _, rfl, FormIn.mk (FormsIn.nil _) rfl (i64_small (by omega) (by omega)) HNM.out (Nat.zero_le _) hcap, (((Below.refl _ _).alloc (Nat.le_refl _) _).alloc (by simp) _).alloc (by simp; omega) _⟩
  case neg =>
  rw [if_neg (fun h => hat ⟨h.1, h.2.1⟩)] at HST
  have hcs : (op == 3) = false ∨ (op = 3 ∧ ((ts.length : Int) == 0) = false) := by
    simp only [beq_eq_false_iff_ne]
    omega
  clear hat HCP
  rcases hcs with h3 | ⟨hop3, hz0⟩
  · go_enter Tryz.func20, Tryz.ntmps20
    go_wp2_with fail
    have HX0 : Hid (((((w.alloc (.cells #[.int .i64 op, .string name, .slice a0 ts.length cap0] 24)).alloc (.cells #[.int .i64 go, .string gs, .slice ga gn gc] 24)).alloc (.cells #[.int .i64 0, .string ⟨#[]⟩, .slice none 0 0] 24)).alloc (.cells #[.int .i64 op, .string name, .slice none 0 0] 24)).heap[w.heap.size]? = some (.cells #[.int .i64 op, .string name, .slice a0 ts.length cap0] 24 (0, 0))) := blk_kept (blk_kept (blk_kept (heap_alloc_new w _) (Grows.alloc _ _)) (Grows.alloc _ _)) (Grows.alloc _ _)
    have HV0 : Hid (((((w.alloc (.cells #[.int .i64 op, .string name, .slice a0 ts.length cap0] 24)).alloc (.cells #[.int .i64 go, .string gs, .slice ga gn gc] 24)).alloc (.cells #[.int .i64 0, .string ⟨#[]⟩, .slice none 0 0] 24)).alloc (.cells #[.int .i64 op, .string name, .slice none 0 0] 24)).heap[w.heap.size + 1]? = some (.cells #[.int .i64 go, .string gs, .slice ga gn gc] 24 (0, 0))) := blk_kept (blk_kept (heap_alloc_at (by simp)) (Grows.alloc _ _)) (Grows.alloc _ _)
    have HR0 : Hid (((((w.alloc (.cells #[.int .i64 op, .string name, .slice a0 ts.length cap0] 24)).alloc (.cells #[.int .i64 go, .string gs, .slice ga gn gc] 24)).alloc (.cells #[.int .i64 0, .string ⟨#[]⟩, .slice none 0 0] 24)).alloc (.cells #[.int .i64 op, .string name, .slice none 0 0] 24)).heap[w.heap.size + 1 + 1]? = some (.cells #[.int .i64 0, .string ⟨#[]⟩, .slice none 0 0] 24 (0, 0))) := blk_kept (heap_alloc_at (by simp)) (Grows.alloc _ _)
    have HP0 : Hid (((((w.alloc (.cells #[.int .i64 op, .string name, .slice a0 ts.length cap0] 24)).alloc (.cells #[.int .i64 go, .string gs, .slice ga gn gc] 24)).alloc (.cells #[.int .i64 0, .string ⟨#[]⟩, .slice none 0 0] 24)).alloc (.cells #[.int .i64 op, .string name, .slice none 0 0] 24)).heap[w.heap.size + 1 + 1 + 1]? = some (.cells #[.int .i64 op, .string name, .slice none 0 0] 24 (0, 0))) := heap_alloc_at (by simp)
    have HB0 : Hid (Below w.heap.size w ((((w.alloc (.cells #[.int .i64 op, .string name, .slice a0 ts.length cap0] 24)).alloc (.cells #[.int .i64 go, .string gs, .slice ga gn gc] 24)).alloc (.cells #[.int .i64 0, .string ⟨#[]⟩, .slice none 0 0] 24)).alloc (.cells #[.int .i64 op, .string name, .slice none 0 0] 24))) := ((((Below.refl _ _).alloc (Nat.le_refl _) _).alloc (by simp) _).alloc (by simp; omega) _).alloc (by simp; omega) _
    generalize ((((w.alloc (.cells #[.int .i64 op, .string name, .slice a0 ts.length cap0] 24)).alloc (.cells #[.int .i64 go, .string gs, .slice ga gn gc] 24)).alloc (.cells #[.int .i64 0, .string ⟨#[]⟩, .slice none 0 0] 24)).alloc (.cells #[.int .i64 op, .string name, .slice none 0 0] 24)) = W at *
    go_loopw [8] (fun i wr => ∃ (k : Nat) (a : Option Addr) (c : Nat), k ≤ ts.length ∧ i = .int .i64 k ∧ Hid (wr.heap[w.heap.size + 1 + 1 + 1]? = some (.cells #[.int .i64 op, .string name, .slice a k c] 24 (0, 0))) ∧ Hid (OwnF wr (w.heap.size + 1 + 1 + 1 + 1) (.slice a k c) ((ts.take k).map (substT q G))) ∧
      Hid (wr.heap[w.heap.size]? = some (.cells #[.int .i64 op, .string name, .slice a0 ts.length cap0] 24 (0, 0))) ∧ Hid (wr.heap[w.heap.size + 1 + 1]? = some (.cells #[.int .i64 0, .string ⟨#[]⟩, .slice none 0 0] 24 (0, 0))) ∧ Hid (wr.heap[w.heap.size + 1]? = some (.cells #[.int .i64 go, .string gs, .slice ga gn gc] 24 (0, 0))) ∧ Hid (Below w.heap.size w wr)) (fun i _ => ts.length - (intOf i).toNat)
    case atStart => exact ⟨0, none, 0, Nat.zero_le _, rfl, HP0.out, OwnF.nil _ _, HX0.out, HR0.out, HV0.out, HB0.out⟩
    case round =>
      clear HX0 HR0 HV0 HP0 HB0
      obtain ⟨k, a, c, hk, rfl, hP, hO, hX, hR, hV, hbel⟩ := hrel
      obtain ⟨x0, x1, x2⟩ := cell_of3 hX.out
      obtain ⟨p0, p1, p2⟩ := cell_of3 hP.out
      obtain ⟨v0, v1, v2⟩ := cell_of3 hV.out
      have hlv := lt_of_block hV.out
      obtain ⟨g0, g1, g2⟩ := cells_free hP.out
      have hlx := lt_of_block hX.out
      have hlp := lt_of_block hP.out
      by_cases hlt : k < ts.length
      · obtain ⟨b', off', a', c', rfl, c0, c1, c2, hf⟩ := (HFS.out.go hbel.out).at k hlt
        have HM : Hid (ts[k] ∈ ts) := List.getElem_mem hlt
        have HTK : Hid ((ts.take (k + 1)).map (substT q G) = (ts.take k).map (substT q G) ++ [substT q G ts[k]]) := by show _ = _; rw [List.take_succ_eq_append_getElem hlt, List.map_append]; rfl
        have HF := hidIt hf
        have hltk : ((ts.take k).map (substT q G)).length = k := by simp; omega
        have hlt1 : (k : Int) < (ts.length : Int) := by omega
        have hk0 : (0 : Int) ≤ (k : Int) := by omega
        clear hf
        generalize ts[k] = t at *
        generalize hus : (ts.take k).map (substT q G) = us at *
        go_wp2_with fail
        have HO : Hid (OwnF wr.drew (w.heap.size + 1 + 1 + 1 + 1) (.slice a k c) us) := hO.out.go (Below.refl _ _).drew
        have HP := hidIt (blk_kept hP.out (Below.refl _ _).drew)
        have HGd : Hid (FormAt wr.drew none (.agg #[.int .i64 go, .string gs, .slice ga gn gc]) G) := FormAt.go HGF.out (hbel.out.trans (Below.mono (Below.refl _ _).drew hbel.out.size))
        have HFd : Hid (FormAt wr.drew none (.agg #[.int .i64 t.op, .string t.name, .slice a' t.args.length c']) t) := FormAt.go HF.out (Below.refl _ _).drew
        have hwl : w.heap.size + 1 + 1 + 1 < wr.drew.heap.size := lt_of_block HP.out
        clear p0 p1 g0 g1
        go_region_law (first
          | ((refine step_append_form (by rfl) (.tmp 38) (.tmp 47) (by rfl) (w.heap.size + 1 + 1 + 1 + 1) (.slice a k c) us (by rfl) ((HO.out.go hb2).alloc _) _ 1 (by rfl) (heap_alloc_new w2 _) (substT q G t) (form_for hf2 HO.out (by omega) _) (by omega) (by have := hb2.size; simp; omega) ?_); intro a5 c5 w5 hown5 hg5; have hp5 := (hg5.block (w.heap.size + 1 + 1 + 1) (lt_of_block (blk_kept (blk_kept HP.out hb2) (Grows.alloc _ _))) (fun e => by have := (HO.out.block _ e.symm).1; omega)).trans (blk_kept (blk_kept HP.out hb2) (Grows.alloc _ _)); have x5 := (cell_of3 hp5).2.2; have y5 := (cells_free hp5).2.2; have l5 := lt_of_block hp5)
          | (go_simp; go_at_call 20; refine (IH.out t HM.out _ _ _ HFd.out HGd.out).mono ?_; rintro e w2 ⟨o', s', a2, n2, c2', rfl, hf2, hb2⟩; have p2' := (cell_of3 (blk_kept HP.out hb2)).2.2; have lp2 := lt_of_block (blk_kept HP.out hb2)))
        all_goals
          have hset : w5.grownBy (w5.setCell ⟨w.heap.size + 1 + 1 + 1, 2, none⟩ (.slice a5 (us.length + 1) c5)) (some (w.heap.size + 1 + 1 + 1)) := only_setCell (p := ⟨w.heap.size + 1 + 1 + 1, 2, none⟩) (only_refl w5 (some (w.heap.size + 1 + 1 + 1))) (.inl rfl) _
          have hb5 : Below w.heap.size w w5 := below_rowO (((hbel.out.trans (Below.mono (Below.refl _ _).drew hbel.out.size)).trans (Below.mono hb2 (by have := hbel.out.size; simpa using this))).alloc (by have := hb2.size; have := hbel.out.size; simp at *; omega) _) hg5 (fun g e => by have := (HO.out.block _ e).1; omega)
          have HB6 := hidIt (below_of_row2 (b := w.heap.size + 1 + 1 + 1) hb5 hset (by omega))
          have HO6 := hidIt (hown5.kept hset (fun g e => by injection e with e; omega))
          have hx5 := (hg5.block (w.heap.size) (lt_of_block (blk_kept (blk_kept (blk_kept hX.out (Below.refl _ _).drew) hb2) (Grows.alloc _ _))) (fun e => by have := (HO.out.block _ e.symm).1; omega)).trans (blk_kept (blk_kept (blk_kept hX.out (Below.refl _ _).drew) hb2) (Grows.alloc _ _))
          have hr5 := (hg5.block (w.heap.size + 1 + 1) (lt_of_block (blk_kept (blk_kept (blk_kept hR.out (Below.refl _ _).drew) hb2) (Grows.alloc _ _))) (fun e => by have := (HO.out.block _ e.symm).1; omega)).trans (blk_kept (blk_kept (blk_kept hR.out (Below.refl _ _).drew) hb2) (Grows.alloc _ _))
          have hv5 := (hg5.block (w.heap.size + 1) (lt_of_block (blk_kept (blk_kept (blk_kept hV.out (Below.refl _ _).drew) hb2) (Grows.alloc _ _))) (fun e => by have := (HO.out.block _ e.symm).1; omega)).trans (blk_kept (blk_kept (blk_kept hV.out (Below.refl _ _).drew) hb2) (Grows.alloc _ _))
          have HV6 := hidIt ((hset.block _ (lt_of_block hv5) (fun e => by injection e with e; omega)).trans hv5)
          have HX6 := hidIt ((hset.block _ (lt_of_block hx5) (fun e => by injection e with e; omega)).trans hx5)
          have HR6 := hidIt ((hset.block _ (lt_of_block hr5) (fun e => by injection e with e; omega)).trans hr5)
          have HP6 : Hid ((w5.setCell ⟨w.heap.size + 1 + 1 + 1, 2, none⟩ (.slice a5 (us.length + 1) c5)).heap[w.heap.size + 1 + 1 + 1]? = some (.cells #[.int .i64 op, .string name, .slice a5 (us.length + 1) c5] 24 (0, 0))) := setCell_heap_self hp5 _
          clear hset hb5 hown5 hx5 hr5 hv5 hp5 hg5 hf2 hb2 p2' lp2 x0 x1 x2 p2 g2 c0 c1 c2
          go_wp2_with fail
          go_roundw
          case rel => exact ⟨k + 1, a5, c5, by omega, by go_num, by rw [← hltk]; exact HP6.out, by rw [HTK.out, ← hltk]; exact HO6.out, by rw [← hltk]; exact HX6.out, by rw [← hltk]; exact HR6.out, by rw [← hltk]; exact HV6.out, by rw [← hltk]; exact HB6.out⟩
          case measure => simp [intOf]; omega
      · obtain rfl : k = ts.length := by omega
        obtain ⟨r0, r1, r2⟩ := cell_of3 hR.out
        obtain ⟨f0, f1, f2⟩ := cells_free hR.out
        have hlr := lt_of_block hR.out
        rw [List.take_length] at hO
        have hml : (ts.map (substT q G)).length = ts.length := List.length_map _
        go_wp2_with fail
        refine bodyPost_ret (v := .agg #[.int .i64 op, .string name, .slice a ts.length c]) (by simp [results, Tryz.results20, go_sem, r0, r1, r2, hlr]) rfl ?_
        have h3 := set_three wr (w.heap.size + 1 + 1) (.int .i64 op) (.string name) (.slice a ts.length c)
        obtain ⟨a', c', e, hc1, hc2, hfs⟩ := hO.out.form
        rw [hml] at e
        injection e with e1 e2 e3
        subst e1 e3
        rw [HST.out]
        refine ⟨op, name, _, _, _, rfl, FormIn.mk (FormsIn.mono (FormsIn.kept hfs (fun i hi hl => h3.block i hl (fun e => by injection e with e; omega))) (fun i _ hi => by omega)) hml.symm HOP.out HNM.out hc1 hc2, below_of_row2 hbel.out h3 (by omega)⟩
  · subst hop3
    go_enter Tryz.func20, Tryz.ntmps20
    go_wp2_with fail
    have HX0 : Hid (((((w.alloc (.cells #[.int .i64 3, .string name, .slice a0 ts.length cap0] 24)).alloc (.cells #[.int .i64 go, .string gs, .slice ga gn gc] 24)).alloc (.cells #[.int .i64 0, .string ⟨#[]⟩, .slice none 0 0] 24)).alloc (.cells #[.int .i64 3, .string name, .slice none 0 0] 24)).heap[w.heap.size]? = some (.cells #[.int .i64 3, .string name, .slice a0 ts.length cap0] 24 (0, 0))) := blk_kept (blk_kept (blk_kept (heap_alloc_new w _) (Grows.alloc _ _)) (Grows.alloc _ _)) (Grows.alloc _ _)
    have HV0 : Hid (((((w.alloc (.cells #[.int .i64 3, .string name, .slice a0 ts.length cap0] 24)).alloc (.cells #[.int .i64 go, .string gs, .slice ga gn gc] 24)).alloc (.cells #[.int .i64 0, .string ⟨#[]⟩, .slice none 0 0] 24)).alloc (.cells #[.int .i64 3, .string name, .slice none 0 0] 24)).heap[w.heap.size + 1]? = some (.cells #[.int .i64 go, .string gs, .slice ga gn gc] 24 (0, 0))) := blk_kept (blk_kept (heap_alloc_at (by simp)) (Grows.alloc _ _)) (Grows.alloc _ _)
    have HR0 : Hid (((((w.alloc (.cells #[.int .i64 3, .string name, .slice a0 ts.length cap0] 24)).alloc (.cells #[.int .i64 go, .string gs, .slice ga gn gc] 24)).alloc (.cells #[.int .i64 0, .string ⟨#[]⟩, .slice none 0 0] 24)).alloc (.cells #[.int .i64 3, .string name, .slice none 0 0] 24)).heap[w.heap.size + 1 + 1]? = some (.cells #[.int .i64 0, .string ⟨#[]⟩, .slice none 0 0] 24 (0, 0))) := blk_kept (heap_alloc_at (by simp)) (Grows.alloc _ _)
    have HP0 : Hid (((((w.alloc (.cells #[.int .i64 3, .string name, .slice a0 ts.length cap0] 24)).alloc (.cells #[.int .i64 go, .string gs, .slice ga gn gc] 24)).alloc (.cells #[.int .i64 0, .string ⟨#[]⟩, .slice none 0 0] 24)).alloc (.cells #[.int .i64 3, .string name, .slice none 0 0] 24)).heap[w.heap.size + 1 + 1 + 1]? = some (.cells #[.int .i64 3, .string name, .slice none 0 0] 24 (0, 0))) := heap_alloc_at (by simp)
    have HB0 : Hid (Below w.heap.size w ((((w.alloc (.cells #[.int .i64 3, .string name, .slice a0 ts.length cap0] 24)).alloc (.cells #[.int .i64 go, .string gs, .slice ga gn gc] 24)).alloc (.cells #[.int .i64 0, .string ⟨#[]⟩, .slice none 0 0] 24)).alloc (.cells #[.int .i64 3, .string name, .slice none 0 0] 24))) := ((((Below.refl _ _).alloc (Nat.le_refl _) _).alloc (by simp) _).alloc (by simp; omega) _).alloc (by simp; omega) _
    generalize ((((w.alloc (.cells #[.int .i64 3, .string name, .slice a0 ts.length cap0] 24)).alloc (.cells #[.int .i64 go, .string gs, .slice ga gn gc] 24)).alloc (.cells #[.int .i64 0, .string ⟨#[]⟩, .slice none 0 0] 24)).alloc (.cells #[.int .i64 3, .string name, .slice none 0 0] 24)) = W at *
    go_loopw [8] (fun i wr => ∃ (k : Nat) (a : Option Addr) (c : Nat), k ≤ ts.length ∧ i = .int .i64 k ∧ Hid (wr.heap[w.heap.size + 1 + 1 + 1]? = some (.cells #[.int .i64 3, .string name, .slice a k c] 24 (0, 0))) ∧ Hid (OwnF wr (w.heap.size + 1 + 1 + 1 + 1) (.slice a k c) ((ts.take k).map (substT q G))) ∧
      Hid (wr.heap[w.heap.size]? = some (.cells #[.int .i64 3, .string name, .slice a0 ts.length cap0] 24 (0, 0))) ∧ Hid (wr.heap[w.heap.size + 1 + 1]? = some (.cells #[.int .i64 0, .string ⟨#[]⟩, .slice none 0 0] 24 (0, 0))) ∧ Hid (wr.heap[w.heap.size + 1]? = some (.cells #[.int .i64 go, .string gs, .slice ga gn gc] 24 (0, 0))) ∧ Hid (Below w.heap.size w wr)) (fun i _ => ts.length - (intOf i).toNat)
    case atStart => exact ⟨0, none, 0, Nat.zero_le _, rfl, HP0.out, OwnF.nil _ _, HX0.out, HR0.out, HV0.out, HB0.out⟩
    case round =>
      clear HX0 HR0 HV0 HP0 HB0
      obtain ⟨k, a, c, hk, rfl, hP, hO, hX, hR, hV, hbel⟩ := hrel
      obtain ⟨x0, x1, x2⟩ := cell_of3 hX.out
      obtain ⟨p0, p1, p2⟩ := cell_of3 hP.out
      obtain ⟨v0, v1, v2⟩ := cell_of3 hV.out
      have hlv := lt_of_block hV.out
      obtain ⟨g0, g1, g2⟩ := cells_free hP.out
      have hlx := lt_of_block hX.out
      have hlp := lt_of_block hP.out
      by_cases hlt : k < ts.length
      · obtain ⟨b', off', a', c', rfl, c0, c1, c2, hf⟩ := (HFS.out.go hbel.out).at k hlt
        have HM : Hid (ts[k] ∈ ts) := List.getElem_mem hlt
        have HTK : Hid ((ts.take (k + 1)).map (substT q G) = (ts.take k).map (substT q G) ++ [substT q G ts[k]]) := by show _ = _; rw [List.take_succ_eq_append_getElem hlt, List.map_append]; rfl
        have HF := hidIt hf
        have hltk : ((ts.take k).map (substT q G)).length = k := by simp; omega
        have hlt1 : (k : Int) < (ts.length : Int) := by omega
        have hk0 : (0 : Int) ≤ (k : Int) := by omega
        clear hf
        generalize ts[k] = t at *
        generalize hus : (ts.take k).map (substT q G) = us at *
        go_wp2_with fail
        have HO : Hid (OwnF wr.drew (w.heap.size + 1 + 1 + 1 + 1) (.slice a k c) us) := hO.out.go (Below.refl _ _).drew
        have HP := hidIt (blk_kept hP.out (Below.refl _ _).drew)
        have HGd : Hid (FormAt wr.drew none (.agg #[.int .i64 go, .string gs, .slice ga gn gc]) G) := FormAt.go HGF.out (hbel.out.trans (Below.mono (Below.refl _ _).drew hbel.out.size))
        have HFd : Hid (FormAt wr.drew none (.agg #[.int .i64 t.op, .string t.name, .slice a' t.args.length c']) t) := FormAt.go HF.out (Below.refl _ _).drew
        have hwl : w.heap.size + 1 + 1 + 1 < wr.drew.heap.size := lt_of_block HP.out
        clear p0 p1 g0 g1
        go_region_law (first
          | ((refine step_append_form (by rfl) (.tmp 38) (.tmp 47) (by rfl) (w.heap.size + 1 + 1 + 1 + 1) (.slice a k c) us (by rfl) ((HO.out.go hb2).alloc _) _ 1 (by rfl) (heap_alloc_new w2 _) (substT q G t) (form_for hf2 HO.out (by omega) _) (by omega) (by have := hb2.size; simp; omega) ?_); intro a5 c5 w5 hown5 hg5; have hp5 := (hg5.block (w.heap.size + 1 + 1 + 1) (lt_of_block (blk_kept (blk_kept HP.out hb2) (Grows.alloc _ _))) (fun e => by have := (HO.out.block _ e.symm).1; omega)).trans (blk_kept (blk_kept HP.out hb2) (Grows.alloc _ _)); have x5 := (cell_of3 hp5).2.2; have y5 := (cells_free hp5).2.2; have l5 := lt_of_block hp5)
          | (go_simp; go_at_call 20; refine (IH.out t HM.out _ _ _ HFd.out HGd.out).mono ?_; rintro e w2 ⟨o', s', a2, n2, c2', rfl, hf2, hb2⟩; have p2' := (cell_of3 (blk_kept HP.out hb2)).2.2; have lp2 := lt_of_block (blk_kept HP.out hb2)))
        all_goals
          have hset : w5.grownBy (w5.setCell ⟨w.heap.size + 1 + 1 + 1, 2, none⟩ (.slice a5 (us.length + 1) c5)) (some (w.heap.size + 1 + 1 + 1)) := only_setCell (p := ⟨w.heap.size + 1 + 1 + 1, 2, none⟩) (only_refl w5 (some (w.heap.size + 1 + 1 + 1))) (.inl rfl) _
          have hb5 : Below w.heap.size w w5 := below_rowO (((hbel.out.trans (Below.mono (Below.refl _ _).drew hbel.out.size)).trans (Below.mono hb2 (by have := hbel.out.size; simpa using this))).alloc (by have := hb2.size; have := hbel.out.size; simp at *; omega) _) hg5 (fun g e => by have := (HO.out.block _ e).1; omega)
          have HB6 := hidIt (below_of_row2 (b := w.heap.size + 1 + 1 + 1) hb5 hset (by omega))
          have HO6 := hidIt (hown5.kept hset (fun g e => by injection e with e; omega))
          have hx5 := (hg5.block (w.heap.size) (lt_of_block (blk_kept (blk_kept (blk_kept hX.out (Below.refl _ _).drew) hb2) (Grows.alloc _ _))) (fun e => by have := (HO.out.block _ e.symm).1; omega)).trans (blk_kept (blk_kept (blk_kept hX.out (Below.refl _ _).drew) hb2) (Grows.alloc _ _))
          have hr5 := (hg5.block (w.heap.size + 1 + 1) (lt_of_block (blk_kept (blk_kept (blk_kept hR.out (Below.refl _ _).drew) hb2) (Grows.alloc _ _))) (fun e => by have := (HO.out.block _ e.symm).1; omega)).trans (blk_kept (blk_kept (blk_kept hR.out (Below.refl _ _).drew) hb2) (Grows.alloc _ _))
          have hv5 := (hg5.block (w.heap.size + 1) (lt_of_block (blk_kept (blk_kept (blk_kept hV.out (Below.refl _ _).drew) hb2) (Grows.alloc _ _))) (fun e => by have := (HO.out.block _ e.symm).1; omega)).trans (blk_kept (blk_kept (blk_kept hV.out (Below.refl _ _).drew) hb2) (Grows.alloc _ _))
          have HV6 := hidIt ((hset.block _ (lt_of_block hv5) (fun e => by injection e with e; omega)).trans hv5)
          have HX6 := hidIt ((hset.block _ (lt_of_block hx5) (fun e => by injection e with e; omega)).trans hx5)
          have HR6 := hidIt ((hset.block _ (lt_of_block hr5) (fun e => by injection e with e; omega)).trans hr5)
          have HP6 : Hid ((w5.setCell ⟨w.heap.size + 1 + 1 + 1, 2, none⟩ (.slice a5 (us.length + 1) c5)).heap[w.heap.size + 1 + 1 + 1]? = some (.cells #[.int .i64 3, .string name, .slice a5 (us.length + 1) c5] 24 (0, 0))) := setCell_heap_self hp5 _
          clear hset hb5 hown5 hx5 hr5 hv5 hp5 hg5 hf2 hb2 p2' lp2 x0 x1 x2 p2 g2 c0 c1 c2
          go_wp2_with fail
          go_roundw
          case rel => exact ⟨k + 1, a5, c5, by omega, by go_num, by rw [← hltk]; exact HP6.out, by rw [HTK.out, ← hltk]; exact HO6.out, by rw [← hltk]; exact HX6.out, by rw [← hltk]; exact HR6.out, by rw [← hltk]; exact HV6.out, by rw [← hltk]; exact HB6.out⟩
          case measure => simp [intOf]; omega
      · obtain rfl : k = ts.length := by omega
        obtain ⟨r0, r1, r2⟩ := cell_of3 hR.out
        obtain ⟨f0, f1, f2⟩ := cells_free hR.out
        have hlr := lt_of_block hR.out
        rw [List.take_length] at hO
        have hml : (ts.map (substT q G)).length = ts.length := List.length_map _
        go_wp2_with fail
        refine bodyPost_ret (v := .agg #[.int .i64 3, .string name, .slice a ts.length c]) (by simp [results, Tryz.results20, go_sem, r0, r1, r2, hlr]) rfl ?_
        have h3 := set_three wr (w.heap.size + 1 + 1) (.int .i64 3) (.string name) (.slice a ts.length c)
        obtain ⟨a', c', e, hc1, hc2, hfs⟩ := hO.out.form
        rw [hml] at e
        injection e with e1 e2 e3
        subst e1 e3
        rw [HST.out]
        refine ⟨3, name, _, _, _, rfl, FormIn.mk (FormsIn.mono (FormsIn.kept hfs (fun i hi hl => h3.block i hl (fun e => by injection e with e; omega))) (fun i _ hi => by omega)) hml.symm HOP.out HNM.out hc1 hc2, below_of_row2 hbel.out h3 (by omega)⟩
end Go.Proofs.YtilkpjcbmllgmaaGreatDoor
