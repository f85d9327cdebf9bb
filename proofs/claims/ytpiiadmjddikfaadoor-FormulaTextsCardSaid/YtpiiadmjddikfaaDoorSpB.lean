/- keep.SpoiltFormula: what it leaves. -/
import Derived.Test.YtpiiadmjddikfaaDoorSpA
namespace Go.Proofs.YtpiiadmjddikfaaDoor
set_option linter.unusedVariables false
set_option linter.unusedSimpArgs false
open Go Go.RowKit

def nmLe (N : Nat) (t : Tree) : Bool := decide (t.name.size ≤ N)

/-- What the spoiler leaves: a formula with few nodes more, names one byte longer at most. -/
def SpPost (N : Nat) (S : Nat → Prop) (t : Tree) (w : World) (B b : Nat) (zs : List Int) (e : Ending) (w' : World) : Prop :=
  ∃ (T : Tree) (o : Int) (s : ByteArray) (a : Option Addr) (m c q : Nat), e = .returned (.agg #[.int .i64 o, .string s, .slice a m c]) ∧ T.nodes ≤ t.nodes + 20 ∧ T.all (nmLe (N + 1)) = true ∧
    FormIn w' (fun i => S i ∨ w.heap.size ≤ i) (.agg #[.int .i64 o, .string s, .slice a m c]) T ∧ SrcAt w' B b zs q ∧ w.grownBy w' (some b)

theorem nmLe_up {N M : Nat} (h : N ≤ M) {t : Tree} (ht : t.all (nmLe N) = true) : t.all (nmLe M) = true :=
  all_imp (fun t h1 => by unfold nmLe at *; simp only [decide_eq_true_eq] at *; omega) t ht
theorem nmLe_node {N : Nat} {op : Int} {s : ByteArray} {ts : List Tree} (h1 : s.size ≤ N) (h2 : ∀ t ∈ ts, t.all (nmLe N) = true) : (Tree.node op s ts).all (nmLe N) = true := by
  have key : ∀ l : List Tree, (∀ t ∈ l, t.all (nmLe N) = true) → allL (nmLe N) l = true := by
    intro l
    induction l with
    | nil => exact fun _ => rfl
    | cons t l ih => intro hl; simp only [allL, hl t (by simp), ih fun t ht => hl t (by simp [ht]), Bool.and_self]
  simp only [Tree.all, key ts h2, Bool.and_true]
  exact decide_eq_true (show s.size ≤ N from h1)

/-- The end: the formula lies in its box; it is carried to the result's box and handed back. -/
structure SpE (N : Nat) (S : Nat → Prop) (t : Tree) (w : World) (B b p4 p5 : Nat) (zs : List Int) (op : Int) (s : ByteArray) (a : Option Addr) (c : Nat) (ts : List Tree) (W : World) : Prop where
  hb : b < w.heap.size
  h4 : w.heap.size ≤ p4
  hS : ∀ i, S i → i < w.heap.size
  src : ∃ q, SrcAt W B b zs q
  box : W.heap[p5]? = some (.cells #[.int .i64 op, .string s, .slice a ts.length c] 24 (0, 0))
  res : W.heap[p4]? = some (.cells #[.int .i64 0, .string ⟨#[]⟩, .slice none 0 0] 24 (0, 0))
  forms : FormsIn W (fun i => S i ∨ p4 < i) a ts
  hop : I64 op
  hc1 : ts.length ≤ c
  hc2 : c ≤ maxLen
  gr : w.grownBy W (some b)
  nod : (Tree.node op s ts).nodes ≤ t.nodes + 20
  nm : (Tree.node op s ts).all (nmLe (N + 1)) = true
  hN : N ≤ 1000

theorem SpE.done {N : Nat} {S : Nat → Prop} {t : Tree} {w : World} {B b p4 p5 : Nat} {zs : List Int} {op : Int} {s : ByteArray} {a : Option Addr} {c : Nat} {ts : List Tree} {W : World} (h : SpE N S t w B b p4 p5 zs op s a c ts W) :
    SpPost N S t w B b zs (.returned (.agg #[.int .i64 op, .string s, .slice a ts.length c])) (((W.setCell ⟨p4, 0, none⟩ (.int .i64 op)).setCell ⟨p4, 1, none⟩ (.string s)).setCell ⟨p4, 2, none⟩ (.slice a ts.length c)) := by
  have h3 := set_three W p4 (.int .i64 op) (.string s) (.slice a ts.length c)
  obtain ⟨q, hq⟩ := h.src
  have h4 := h.h4
  have hb := h.hb
  have hB := hq.base
  have hs : s.size ≤ maxLen := by
    have h1 : s.size ≤ N + 1 := of_decide_eq_true (all_self h.nm).1
    have := h.hN
    unfold maxLen
    omega
  refine ⟨_, op, s, a, ts.length, c, q, rfl, h.nod, h.nm, FormIn.mk ((h.forms.kept fun i hi hl => h3.block i hl (fun e => ?_)).mono fun i _ hi => ?_) rfl h.hop hs h.hc1 h.hc2, hq.kept h3 (fun g e => by injection e with e; omega), only_new h.gr h3 h4⟩
  · injection e with e
    rcases hi with hi | hi
    · have := h.hS i hi
      omega
    · omega
  · rcases hi with hi | hi
    · exact .inl hi
    · exact .inr (by omega)

/-- The box's fields turn; the row stays. -/
theorem forms_apart {W W' : World} {S : Nat → Prop} {B p4 p5 : Nat} {v : Value} {ts : List Tree} (h : OwnG W B S v ts) (hS : ∀ i, S i → i ≠ p5) (hne : v.ownBlock ≠ some p5) (hB : p4 < B) (hg : W.grownBy W' (some p5)) : ∃ (a : Option Addr) (c : Nat), v = .slice a ts.length c ∧ ts.length ≤ c ∧ c ≤ maxLen ∧ FormsIn W' (fun i => S i ∨ p4 < i) a ts := by
  obtain ⟨a, c, rfl, h1, h2, h3, -⟩ := h.row
  refine ⟨a, c, rfl, h1, h2, (h3.kept fun i hi hl => hg.block i hl (fun e => ?_)).mono fun i _ hi => ?_⟩
  · injection e with e
    rcases hi with hi | hi
    · exact hS i hi e
    · exact hne (by rw [hi, e])
  · rcases hi with hi | hi
    · exact .inl hi
    · exact .inr (by have := (h.block i hi).1; omega)

theorem nmLe_gen {n N : Nat} (h : 12 ≤ N) {t : Tree} (ht : t.all (nodeG n) = true) : t.all (nmLe N) = true :=
  all_imp (fun t h1 => by
    have h2 := nodeG_name h1
    unfold nameB at h2
    refine decide_eq_true ?_
    split at h2
    · unfold vn at h2
      simp only [Bool.and_eq_true, decide_eq_true_eq] at h2
      omega
    · have : t.name.size = 0 := by simpa using h2
      omega) t ht

/-- The texts that the spoiler adds. -/
def spS : List ByteArray := [⟨#[97]⟩, ⟨#[65]⟩, ⟨#[]⟩, ⟨#[95]⟩]
theorem spS_size : ∀ s ∈ spS, s.size ≤ 1 := by decide
def isTexts (L : Nat) : Value → World → Prop := fun v w => ∃ nb : Nat, v = .slice (some ⟨nb, 0, none⟩) 4 4 ∧ L ≤ nb ∧ w.heap[nb]? = some (.cells (strRowK spS) 9 (0, 0))
def isShort : Value → World → Prop := fun v _ => ∃ s : ByteArray, v = .string s ∧ s.size ≤ 1

theorem nodesL_set (ts : List Tree) (m : Nat) (T : Tree) (h : m < ts.length) : nodesL (ts.set m T) + (ts[m]).nodes = nodesL ts + T.nodes := by
  induction ts generalizing m with
  | nil => simp at h
  | cons t ts ih =>
    cases m with
    | zero => simp only [List.set_cons_zero, List.getElem_cons_zero, nodesL]; omega
    | succ m =>
      have := ih m (by simpa using h)
      simp only [List.set_cons_succ, List.getElem_cons_succ, nodesL]
      omega

/-- What the way down leaves. -/
def isSpoilt (N : Nat) (S : Nat → Prop) (t : Tree) : Value → World → Prop := fun v w => ∃ (T : Tree) (o : Int) (s : ByteArray) (a : Option Addr) (m c : Nat), v = .agg #[.int .i64 o, .string s, .slice a m c] ∧ T.nodes ≤ t.nodes + 20 ∧ T.all (nmLe (N + 1)) = true ∧
  FormIn w S (.agg #[.int .i64 o, .string s, .slice a m c]) T

set_option maxRecDepth 100000 in
set_option maxHeartbeats 8000000 in
theorem spoilt_any (N : Nat) (hN12 : 12 ≤ N) (hN : N ≤ 1000) : ∀ t : Tree, t.nodes ≤ 100000 → t.all (nmLe N) = true → ∀ (B b : Nat) (zs : List Int) (k : Nat) (S : Nat → Prop) (v : Value) (w : World), SrcAt w B b zs k → ¬ S b → FormIn w S v t →
    Calls Tryd.prog 9 #[.pointer (some ⟨b, 0, none⟩), v] w (SpPost N (fun i => S i ∧ i < w.heap.size) t w B b zs) := by
  refine Tree.ind fun op name ts ih hnod hnm B b zs k S v w hsrc hSb hv => ?_
  obtain ⟨a, cap, -, -, rfl, hop, hname, hlen, hcap, -, -⟩ := hv.form
  have hforms := hv.forms
  simp only [Tree.op_node, Tree.name_node, Tree.args_node] at *
  have hlenn : ts.length ≤ 100000 := by
    have := nodes_len_le ts
    simp only [Tree.nodes] at hnod
    omega
  have hbl := hsrc.lt
  obtain ⟨W0, hW0⟩ : ∃ W0 : World, W0 = (w.alloc (.cells #[.int .i64 op, .string name, .slice a ts.length cap] 24)).alloc (.cells #[.int .i64 0, .string ⟨#[]⟩, .slice none 0 0] 24) := ⟨_, rfl⟩
  have hb0 : Below w.heap.size w W0 := by rw [hW0]; exact ((Below.refl _ _).alloc (Nat.le_refl _) _).alloc (by simp) _
  have hsz0 : W0.heap.size = w.heap.size + 2 := by rw [hW0]; simp
  have HK3 : Hid (W0.heap[w.heap.size]? = some (.cells #[.int .i64 op, .string name, .slice a ts.length cap] 24 (0, 0))) := by show _ = _; rw [hW0]; exact blk_kept (heap_alloc_new w _) (Grows.alloc _ _)
  have HK4 : Hid (W0.heap[w.heap.size + 1]? = some (.cells #[.int .i64 0, .string ⟨#[]⟩, .slice none 0 0] 24 (0, 0))) := by show _ = _; rw [hW0]; exact heap_alloc_at (by simp)
  have HS0 := hidIt (hsrc.grow (only_of_below hb0 none))
  have HF0 := hidIt ((hforms.mono (S' := fun i => S i ∧ i < w.heap.size) fun i hi h => ⟨h, hi⟩).go hb0)
  have HB0 := hidIt hb0
  have HW := hidIt hW0
  have HSZ0 := hidIt hsz0
  have HIH := hidIt ih
  have HNM := hidIt hnm
  have HND := hidIt hnod
  have HSB := hidIt hSb
  clear hv hforms hb0 hW0 ih hnm hnod hsrc hsz0
  unfold maxLen at hcap hname
  go_enter Tryd.func9, Tryd.ntmps9
  go_wp2_with fail
  rw [← HW.out]
  clear HW
  obtain ⟨x0, x1, x2⟩ := cell_of3 HK3.out
  have K0 := ext_cell3 x0
  have K1 := ext_cell3 x1
  have K2 := ext_cell3 x2
  have hlx := lt_of_block HK3.out
  clear x0 x1 x2
  haveI := Ext.nonempty W0
  refine Own.wp_region_tail 10 (Ext W0) Grows (Own.relTab [(11, Own.rA (isNil W0.heap.size)), (14, ⟨isCopy W0.heap.size (fun i => S i ∧ i < w.heap.size) ts, decide (0 < ts.length)⟩), (5, Own.rO (Own.isBox W0.heap.size))]) (by kernel_rfl) (by kernel_rfl) (by kernel_rfl) (by kernel_rfl) (by kernel_rfl) (by kernel_rfl) (Own.stableO_cons (isNil_up _) (Own.stableO_cons (isCopy_up _ _ _) (Own.stableO_cons (Own.isBox_up _) (Own.stableO_nil _)))) (Ext.start W0) ?_
  simp only [Own.idleTail]
  repeat (
    refine' Own.walkR_plain (by kernel_rfl) rfl rfl (fun wx hC hL => ?_) ?_
    rotate_left
    · (have hlw := Nat.lt_of_lt_of_le hlx (Below.size hC)
       simp only [K0 wx hC, K1 wx hC, K2 wx hC, hlw, go_sem]; first | done | (go_simp; exact ⟨rfl, rfl⟩))
    simp only [Act.put, List.setIfInBounds_toArray, List.set_cons_zero, List.set_cons_succ])
  refine Own.walkR_rel (by kernel_rfl) rfl rfl (of_decide_eq_true (by kernel_rfl)) (fun wx hC hL => ?_) (fun v hv => ?_)
  · go_simp
    exact ⟨hC.grown (Grows.alloc _ _), Grows.alloc _ _, ⟨_, rfl, Below.size hC, heap_alloc_new _ _⟩, fun h => by cases h⟩
  obtain ⟨_, _, nb11, rfl, hnb11, -⟩ := hv
  simp only [Act.put, List.setIfInBounds_toArray, List.set_cons_zero, List.set_cons_succ]
  repeat (
    refine' Own.walkR_plain (by kernel_rfl) rfl rfl (fun wx hC hL => ?_) ?_
    rotate_left
    · (have hlw := Nat.lt_of_lt_of_le hlx (Below.size hC)
       simp only [K0 wx hC, K1 wx hC, K2 wx hC, hlw, go_sem]; first | done | (go_simp; exact ⟨rfl, rfl⟩))
    simp only [Act.put, List.setIfInBounds_toArray, List.set_cons_zero, List.set_cons_succ])
  refine Own.walkR_rel (by kernel_rfl) rfl rfl (of_decide_eq_true (by kernel_rfl)) (fun wx hC hL => ?_) (fun v hv => ?_)
  · exact rel_copy (.tmp 11) (.tmp 13) rfl hC (Nat.le_refl _) rfl (hL.get 11 (by simp [Own.more]) (by kernel_rfl) rfl rfl) rfl (HF0.out.go hC) (by omega)
  obtain ⟨_, _, hv⟩ := hv
  obtain ⟨a5, c5, rfl, h5l, h5c, -⟩ := hv.1.form
  clear hv
  simp only [Act.put, List.setIfInBounds_toArray, List.set_cons_zero, List.set_cons_succ]
  repeat (
    refine' Own.walkR_plain (by kernel_rfl) rfl rfl (fun wx hC hL => ?_) ?_
    rotate_left
    · (have hlw := Nat.lt_of_lt_of_le hlx (Below.size hC)
       simp only [K0 wx hC, K1 wx hC, K2 wx hC, hlw, go_sem]; first | done | (go_simp; exact ⟨rfl, rfl⟩))
    simp only [Act.put, List.setIfInBounds_toArray, List.set_cons_zero, List.set_cons_succ])
  refine Own.walkR_rel (by kernel_rfl) rfl rfl (of_decide_eq_true (by kernel_rfl)) (fun wx hC hL => ?_) (fun v hv => ?_)
  · go_simp
    exact Own.boxO hC (Nat.le_refl _)
  obtain ⟨_, _, p5, rfl, hp5, -⟩ := hv
  simp only [Act.put, List.setIfInBounds_toArray, List.set_cons_zero, List.set_cons_succ]
  refine Own.walkR_idle rfl (fun wx _ => Below.refl _ _) ?_
  refine fun w1 hE1 hK => ?_
  have hsz0 := HSZ0.out
  have h14 : isCopy W0.heap.size (fun i => S i ∧ i < w.heap.size) ts (.slice a5 ts.length c5) w1 := hK.get 14 (by simp [Own.more]) rfl rfl
  obtain ⟨_, e5, -, hz5⟩ : Own.isBox W0.heap.size (.pointer (some ⟨p5, 0, none⟩)) w1 := hK.get 5 (by simp [Own.more]) rfl rfl
  injection e5 with e5
  injection e5 with e5
  injection e5 with e5
  subst e5
  have hne : (Value.slice a5 ts.length c5).ownBlock ≠ some p5 := by
    by_cases h0 : 0 < ts.length
    · have h1 : Own.apartV (.slice a5 ts.length c5) (.pointer (some ⟨p5, 0, none⟩)) := hK.ne 14 5 (by simp [Own.more]) (by simp [Own.more]) (by decide) rfl rfl (decide_eq_true h0) rfl rfl rfl
      intro e
      cases a5 with
      | none => cases e
      | some ad =>
        have e2 : ad.block = p5 := by simpa [Value.ownBlock] using e
        exact h1 p5 (by simp [Own.vblk, e2]) rfl
    · obtain ⟨nb, e, -, hblk⟩ := h14.2 (by omega)
      rw [e]
      intro e2
      have e3 : nb = p5 := by simpa [Value.ownBlock] using e2
      rw [e3, hz5] at hblk
      injection hblk with hblk
      injection hblk with h1 h2
      simp at h1
  have hown := h14.1
  clear hK h14
  simp only [List.drop_succ_cons, List.drop_zero]
  have hs1 := set_three w1 p5 (.int .i64 op) (.string name) (.slice a5 ts.length c5)
  have hz5' := Own.set_blk3 (x' := .int .i64 op) (y' := .string name) (z' := .slice a5 ts.length c5) hz5
  have hl5 := lt_of_block hz5
  have HG1 := hidIt (only_new (only_of_below (HB0.out.trans (Below.mono hE1 HB0.out.size)) (some b)) hs1 (by omega))
  have HO1 := hidIt (hown.kept hs1 (fun g e => by injection e with e; subst e; exact ⟨hne, fun h => by omega⟩))
  have HR1 : Hid ((((w1.setCell ⟨p5, 0, none⟩ (.int .i64 op)).setCell ⟨p5, 1, none⟩ (.string name)).setCell ⟨p5, 2, none⟩ (.slice a5 ts.length c5)).heap[w.heap.size + 1]? = some (.cells #[.int .i64 0, .string ⟨#[]⟩, .slice none 0 0] 24 (0, 0))) := by
    show _ = _
    have h1 := blk_kept HK4.out hE1
    rw [hs1.block (w.heap.size + 1) (lt_of_block h1) (fun e => by injection e with e; omega)]
    exact h1
  have HS1 := hidIt ((HS0.out.grow (only_of_below hE1 none)).kept hs1 (fun g e => by have := HS0.out.base; injection e with e; exact ⟨by omega, by omega⟩))
  have HZ5 := hidIt hz5'
  have HNE := hidIt hne
  obtain ⟨r0, r1, r2⟩ := cell_of3 hz5
  obtain ⟨f0, f1, f2⟩ := cells_free hz5
  unfold maxLen at h5c
  have HB5 : Hid (W0.heap.size ≤ p5) := hp5
  have hlt1 : b < (((w1.setCell ⟨p5, 0, none⟩ (.int .i64 op)).setCell ⟨p5, 1, none⟩ (.string name)).setCell ⟨p5, 2, none⟩ (.slice a5 ts.length c5)).heap.size := HS1.out.lt
  have HSUB : Hid (∀ i, (S i ∧ i < w.heap.size) → i ≠ p5) := fun i h => by omega
  have hp4 : ¬ w.heap.size + 1 = p5 := by omega
  have hp4' : ¬ p5 = w.heap.size + 1 := by omega
  have hp5b : b ≠ p5 := by omega
  have h5p : p5 < (((w1.setCell ⟨p5, 0, none⟩ (.int .i64 op)).setCell ⟨p5, 1, none⟩ (.string name)).setCell ⟨p5, 2, none⟩ (.slice a5 ts.length c5)).heap.size := lt_of_block HZ5.out
  clear hs1 hz5' hown hz5 hE1 hne K0 K1 K2 HS0 HK3 HK4 HF0 HB0 hlx
  by_cases h0 : 0 < ts.length
  case pos =>
    have h0' : (0 : Int) < (ts.length : Int) := by omega
    go_wp2_with fail
    generalize (((w1.setCell ⟨p5, 0, none⟩ (.int .i64 op)).setCell ⟨p5, 1, none⟩ (.string name)).setCell ⟨p5, 2, none⟩ (.slice a5 ts.length c5)) = W1 at *
    clear r0 r1 r2 f0 f1 f2
    refine (sn_nat 3 (by omega) (by omega) B b zs k _ HS1.out).mono ?_
    rintro e W2 ⟨z3, k2, rfl, hz3, hs2, hg2⟩
    have HS2 := hidIt hs2
    have HG2 := hidIt (only_trans HG1.out hg2)
    have HO2 := hidIt (HO1.out.kept hg2 (fun g e => by injection e with e; subst e; exact ⟨fun e2 => by have := (HO1.out.block _ e2).1; omega, fun h => HSB.out h.1⟩))
    have HR2 := hidIt (by have h1 := HR1.out; rw [← hg2.block _ (lt_of_block h1) (fun e => by injection e with e; omega)] at h1; exact h1 : W2.heap[w.heap.size + 1]? = some (.cells #[.int .i64 0, .string ⟨#[]⟩, .slice none 0 0] 24 (0, 0)))
    have HZ2 := hidIt (by have h1 := HZ5.out; rw [← hg2.block _ (lt_of_block h1) (fun e => by injection e with e; exact hp5b e.symm)] at h1; exact h1 : W2.heap[p5]? = some (.cells #[.int .i64 op, .string name, .slice a5 ts.length c5] 24 (0, 0)))
    have h5p2 : p5 < W2.heap.size := Nat.lt_of_lt_of_le h5p hg2.size
    clear hs2 hg2 HS1 HG1 HO1 HR1 HZ5 h5p hlt1
    obtain ⟨y0, y1, y2⟩ := cell_of3 HZ2.out
    by_cases hz : 0 < z3
    case pos =>
      have hz' : (0 : Int) < (z3 : Int) := by omega
      go_wp2_with fail
      refine (sn_nat (ts.length : Int) (by omega) (by omega) B b zs k2 _ HS2.out).mono ?_
      rintro e W3 ⟨m, k3, rfl, hm, hs3, hg3⟩
      have hm' : m < ts.length := by omega
      have HS3 := hidIt hs3
      have HG3 := hidIt (only_trans HG2.out hg3)
      have HO3 := hidIt (HO2.out.kept hg3 (fun g e => by injection e with e; subst e; exact ⟨fun e2 => by have := (HO2.out.block _ e2).1; omega, fun h => HSB.out h.1⟩))
      have HR3 := hidIt (by have h1 := HR2.out; rw [← hg3.block _ (lt_of_block h1) (fun e => by injection e with e; omega)] at h1; exact h1 : W3.heap[w.heap.size + 1]? = some (.cells #[.int .i64 0, .string ⟨#[]⟩, .slice none 0 0] 24 (0, 0)))
      have HZ3 := hidIt (by have h1 := HZ2.out; rw [← hg3.block _ (lt_of_block h1) (fun e => by injection e with e; exact hp5b e.symm)] at h1; exact h1 : W3.heap[p5]? = some (.cells #[.int .i64 op, .string name, .slice a5 ts.length c5] 24 (0, 0)))
      clear hs3 hg3 HS2 HG2 HO2 HR2 HZ2 y0 y1 y2 h5p2
      obtain ⟨g, cur, ai, cx, ci, ea, hgB, hgl, hcur, q0, q1, q2, hcl, hfi⟩ := HO3.out.at m hm'
      injection ea with ea1 ea2 ea3
      subst ea1 ea3
      have hgp : g ≠ p5 := fun e => HNE.out (by rw [← e]; rfl)
      have HCUR := hidIt hcur
      have HFI := hidIt hfi
      have HSUM := hidIt (nodesL_take_le ts (m + 1))
      have HTK := hidIt (nodesL_take ts m hm')
      have HMEM : Hid (ts[m] ∈ ts) := List.getElem_mem hm'
      obtain ⟨ti, hti⟩ : ∃ t, t = ts[m] := ⟨_, rfl⟩
      rw [← hti] at q0 q1 q2 HFI HTK HMEM
      have HTI := hidIt hti
      clear hti hfi hcur
      have hm0 : (0 : Int) ≤ (m : Int) := by omega
      have hml : (m : Int) < (ts.length : Int) := by omega
      go_wp2_with fail
      have hg3b : g ≠ b := by omega
      have hyl := lt_of_block HZ3.out
      have hbW : b < W3.heap.size := HS3.out.lt
      have Y2 : ∀ wx, (W3.grownBy wx (some b) ∧ ∃ q, SrcAt wx B b zs q) → wx.cell? ⟨p5, 2, none⟩ = some (.slice (some ⟨g, 0, none⟩) ts.length c5) := fun wx hC => hC.1.cell (cell_of3 HZ3.out).2.2 (fun e => hp5b (by injection e with e; exact e.symm))
      have Q0 : ∀ wx, (W3.grownBy wx (some b) ∧ ∃ q, SrcAt wx B b zs q) → wx.cell? ⟨g, m * 3, none⟩ = some (.int .i64 ti.op) := fun wx hC => hC.1.cell q0 (fun e => hg3b (by injection e))
      have Q1 : ∀ wx, (W3.grownBy wx (some b) ∧ ∃ q, SrcAt wx B b zs q) → wx.cell? ⟨g, m * 3 + 1, none⟩ = some (.string ti.name) := fun wx hC => hC.1.cell q1 (fun e => hg3b (by injection e))
      have Q2 : ∀ wx, (W3.grownBy wx (some b) ∧ ∃ q, SrcAt wx B b zs q) → wx.cell? ⟨g, m * 3 + 2, none⟩ = some (.slice ai ti.args.length ci) := fun wx hC => hC.1.cell q2 (fun e => hg3b (by injection e))
      have HCALL : Hid (∀ wx, (W3.grownBy wx (some b) ∧ ∃ q, SrcAt wx B b zs q) → Calls Tryd.prog 9 #[.pointer (some ⟨b, 0, none⟩), .agg #[.int .i64 ti.op, .string ti.name, .slice ai ti.args.length ci]] wx fun e w'' => ∃ u, e = .returned u ∧ (W3.grownBy w'' (some b) ∧ ∃ q, SrcAt w'' B b zs q) ∧ wx.grownBy w'' (some b) ∧ Own.relR (Own.rA (isSpoilt N (fun i => (S i ∧ i < w.heap.size) ∨ W3.heap.size ≤ i) ti)) wx u w'') := fun wx hC => by
        obtain ⟨hC1, q, hq⟩ := hC
        have hti := HMEM.out
        have hn1 : ti.nodes ≤ 100000 := by have h1 := HTK.out; have h2 := HSUM.out; have h3 := HND.out; simp only [Tree.nodes] at h3; omega
        have hn2 : ti.all (nmLe N) = true := allL_mem (all_self HNM.out).2 ti hti
        refine (HIH.out ti hti hn1 hn2 B b zs q (fun i => S i ∧ i < w.heap.size) _ wx hq (fun h => HSB.out h.1) (HFI.out.kept fun i hi hl => hC1.block i hl (fun e => HSB.out (by injection e with e; subst e; exact hi.1)))).mono ?_
        rintro e w'' ⟨T, o, sx, ax, mx, cx, q', rfl, h1, h2, h3, h4, h5⟩
        exact ⟨_, rfl, ⟨only_trans hC1 h5, _, h4⟩, h5, ⟨T, o, sx, ax, mx, cx, rfl, h1, h2, h3.mono fun i _ hi => by
          rcases hi with hi | hi
          · exact .inl hi.1
          · exact .inr (Nat.le_trans hC1.size hi)⟩, fun h => by cases h⟩
      clear HIH
      refine Own.wp_region_tail 11 (fun wx => W3.grownBy wx (some b) ∧ ∃ q, SrcAt wx B b zs q) (fun x y => x.grownBy y (some b)) (Own.relTab [(39, Own.rA (isSpoilt N (fun i => (S i ∧ i < w.heap.size) ∨ W3.heap.size ≤ i) ti))]) (by kernel_rfl) (by kernel_rfl) (by kernel_rfl) (by kernel_rfl) (by kernel_rfl) (by kernel_rfl) ⟨fun _ _ h => h.size, fun s r hs v x y hx hy hg hr => ?_⟩ ⟨only_of_below (Below.refl _ _).drew _, _, HS3.out.grow (only_of_below (Below.refl _ _).drew none)⟩ ?_
      · unfold Own.relTab at hs
        split at hs
        · injection hs with hs
          subst hs
          obtain ⟨T, o, sx, ax, mx, cx, h1, h2, h3, h4⟩ := hr
          exact ⟨T, o, sx, ax, mx, cx, h1, h2, h3, h4.kept fun i hi hl => hg.block i hl (fun e => by
            injection e with e
            subst e
            rcases hi with hi | hi
            · exact HSB.out hi.1
            · omega)⟩
        · cases hs
      simp only [Own.idleTail]
      repeat (
        refine' Own.walkR_plain (by kernel_rfl) rfl rfl (fun wx hC hL => ?_) ?_
        rotate_left
        · (have hlw := Nat.lt_of_lt_of_le hyl hC.1.size
           have hlg := Nat.lt_of_lt_of_le hgl hC.1.size
           simp only [Y2 wx hC, hlw, go_sem]; first | done | (go_simp; exact ⟨rfl, rfl⟩))
        simp only [Act.put, List.setIfInBounds_toArray, List.set_cons_zero, List.set_cons_succ])
      repeat (
        refine' Own.walkR_plain (by kernel_rfl) rfl rfl (fun wx hC hL => ?_) ?_
        rotate_left
        · (have hlw := Nat.lt_of_lt_of_le hyl hC.1.size
           have hlg := Nat.lt_of_lt_of_le hgl hC.1.size
           simp only [Y2 wx hC, Q0 wx hC, Q1 wx hC, Q2 wx hC, hlw, hlg, go_sem]; first | done | (go_simp; exact ⟨rfl, rfl⟩))
        simp only [Act.put, List.setIfInBounds_toArray, List.set_cons_zero, List.set_cons_succ])
      refine Own.walkR_rel (by kernel_rfl) rfl rfl (of_decide_eq_true (by kernel_rfl)) (fun wx hC hL => ?_) (fun v hv => ?_)
      · go_simp
        exact HCALL.out wx hC
      obtain ⟨_, _, T0, o0, s0, a0, n0, c0, rfl, -⟩ := hv
      simp only [Act.put, List.setIfInBounds_toArray, List.set_cons_zero, List.set_cons_succ]
      repeat (
        refine' Own.walkR_plain (by kernel_rfl) rfl rfl (fun wx hC hL => ?_) ?_
        rotate_left
        · (have hlw := Nat.lt_of_lt_of_le hyl hC.1.size
           have hlg := Nat.lt_of_lt_of_le hgl hC.1.size
           simp only [Y2 wx hC, hlw, hlg, go_sem]; first | done | (go_simp; exact ⟨rfl, rfl⟩))
        simp only [Act.put, List.setIfInBounds_toArray, List.set_cons_zero, List.set_cons_succ])
      refine' Own.walkR_idle (by rfl) ?_ ?_
      · exact fun wx _ => only_refl wx (some b)
      refine fun W4 hC4 hK => ?_
      obtain ⟨T, o, sx, ax, mx, cx', e9, hTn, hTm, hTf⟩ : isSpoilt N (fun i => (S i ∧ i < w.heap.size) ∨ W3.heap.size ≤ i) ti (.agg #[.int .i64 o0, .string s0, .slice a0 n0 c0]) W4 := hK.get 39 (by simp [Own.more]) rfl rfl
      simp at e9
      obtain ⟨rfl, rfl, rfl, rfl, rfl⟩ := e9
      obtain ⟨hg4, k4, hs4⟩ := hC4
      clear hK HCALL Y2 Q0 Q1 Q2
      simp only [List.drop_succ_cons, List.drop_zero]
      have hcur4 := (hg4.block g hgl (fun e => hg3b (by injection e))).trans HCUR.out
      have HG4 := hidIt (only_trans HG3.out hg4)
      have hz4 := (hg4.block p5 hyl (fun e => hp5b (by injection e with e; exact e.symm))).trans HZ3.out
      have hr4 := (hg4.block (w.heap.size + 1) (lt_of_block HR3.out) (fun e => by injection e with e; omega)).trans HR3.out
      have hO4 := HO3.out.kept hg4 (fun g' e => by injection e with e; subst e; exact ⟨fun e2 => by have := (HO3.out.block _ e2).1; omega, fun h => HSB.out h.1⟩)
      have hput := hO4.put (S' := fun i => (S i ∧ i < w.heap.size) ∨ W3.heap.size ≤ i) (fun i h => .inl h) (fun h => by rcases h with h | h <;> omega) m hm' hTf
      have hrow := set_row3 W4 g (m * 3) (.int .i64 o0) (.string s0) (.slice a0 n0 c0)
      have hgr4 : w.heap.size + 1 ≠ g := by omega
      have hforms : FormsIn (((W4.setCell ⟨g, m * 3, none⟩ (.int .i64 o0)).setCell ⟨g, m * 3 + 1, none⟩ (.string s0)).setCell ⟨g, m * 3 + 2, none⟩ (.slice a0 n0 c0)) (fun i => (S i ∧ i < w.heap.size) ∨ w.heap.size + 1 < i) (some ⟨g, 0, none⟩) (ts.set m T) := hput.mono fun i _ hi => by
        rcases hi with (h | h) | h
        · exact .inl h
        · exact .inr (by omega)
        · exact .inr (by omega)
      have hnset := nodesL_set ts m T hm'
      rw [← HTI.out] at hnset
      have hlen : (ts.set m T).length = ts.length := List.length_set
      have HE : Hid (SpE N (fun i => S i ∧ i < w.heap.size) (.node op name ts) w B b (w.heap.size + 1) p5 zs op name (some ⟨g, 0, none⟩) c5 (ts.set m T) (((W4.setCell ⟨g, m * 3, none⟩ (.int .i64 o0)).setCell ⟨g, m * 3 + 1, none⟩ (.string s0)).setCell ⟨g, m * 3 + 2, none⟩ (.slice a0 n0 c0))) :=
        ⟨hbl, by omega, fun i h => h.2, ⟨_, hs4.kept hrow (fun g' e => by have := hs4.base; injection e with e; exact ⟨by omega, by omega⟩)⟩, by rw [hlen, hrow.block p5 (lt_of_block hz4) (fun e => hgp (by injection e with e; exact e.symm))]; exact hz4, by rw [hrow.block _ (lt_of_block hr4) (fun e => hgr4 (by injection e))]; exact hr4, hforms, hop, by omega, by unfold maxLen; omega, only_new HG4.out hrow (by omega), by simp only [Tree.nodes]; omega, nmLe_node (by have := of_decide_eq_true (all_self HNM.out).1; exact Nat.le_trans this (by omega)) (fun t ht => by
          rcases List.mem_or_eq_of_mem_set ht with h | h
          · exact nmLe_up (by omega) (allL_mem (all_self HNM.out).2 t h)
          · rw [h]; exact hTm), hN⟩
      obtain ⟨g9, cur9, ai9, c9, ci9, e9, -, -, -, u0, u1, u2, -, -⟩ := hO4.at m hm'
      injection e9 with e91 e92 e93
      injection e91 with e91
      injection e91 with e91
      subst e91 e93
      have v0 := free_any hcur4 (m * 3)
      have v1 := free_any hcur4 (m * 3 + 1)
      have v2 := free_any hcur4 (m * 3 + 2)
      have hgl4 := lt_of_block hcur4
      obtain ⟨y0, y1, y2⟩ := cell_of3 hz4
      obtain ⟨r0, r1, r2⟩ := cell_of3 hr4
      obtain ⟨f0, f1, f2⟩ := cells_free hr4
      have hrl := lt_of_block hr4
      have hyl4 := lt_of_block hz4
      have hgp' : ¬ p5 = g := fun e => hgp e.symm
      have hgp : ¬ g = p5 := hgp
      have hgr4' : ¬ g = w.heap.size + 1 := fun e => hgr4 e.symm
      have hgr4 : ¬ w.heap.size + 1 = g := hgr4
      clear hforms hput hrow hO4 hz4 hr4 hcur4 hs4 hg4 hTf hnset q0 q1 q2
      go_wp2_with fail
      refine bodyPost_ret (v := .agg #[.int .i64 op, .string name, .slice (some ⟨g, 0, none⟩) ts.length c5]) (by simp [results, Tryd.results9, go_sem, r0, r1, r2, hrl, hp4, hp4', hgr4, hgr4']) rfl ?_
      have h9 := HE.out.done
      rw [hlen] at h9
      exact h9
    case neg =>
      obtain rfl : z3 = 0 := by omega
      go_wp2_with fail
      clear y0 y1 y2
      refine (sn_nat 5 (by omega) (by omega) B b zs k2 _ HS2.out).mono ?_
      rintro e W3 ⟨z, k3, rfl, hz5, hs3, hg3⟩
      have HS3 := hidIt hs3
      have HG3 := hidIt (only_trans HG2.out hg3)
      have HO3 := hidIt (HO2.out.kept hg3 (fun g e => by injection e with e; subst e; exact ⟨fun e2 => by have := (HO2.out.block _ e2).1; omega, fun h => HSB.out h.1⟩))
      have HR3 := hidIt (by have h1 := HR2.out; rw [← hg3.block _ (lt_of_block h1) (fun e => by injection e with e; omega)] at h1; exact h1 : W3.heap[w.heap.size + 1]? = some (.cells #[.int .i64 0, .string ⟨#[]⟩, .slice none 0 0] 24 (0, 0)))
      have HZ3 := hidIt (by have h1 := HZ2.out; rw [← hg3.block _ (lt_of_block h1) (fun e => by injection e with e; exact hp5b e.symm)] at h1; exact h1 : W3.heap[p5]? = some (.cells #[.int .i64 op, .string name, .slice a5 ts.length c5] 24 (0, 0)))
      have h5p3 : p5 < W3.heap.size := lt_of_block HZ3.out
      clear hs3 hg3
      rcases (by omega : z = 0 ∨ z = 1 ∨ z = 2 ∨ z = 3 ∨ z = 4) with rfl | rfl | rfl | rfl | rfl
      · go_wp2_with fail
        refine (sn_nat 11 (by omega) (by omega) B b zs k3 _ HS3.out).mono ?_
        rintro e W4 ⟨z11, k4, rfl, hz11, hs4, hg4⟩
        have hsub : wrap64 ((z11 : Int) - 1) = (z11 : Int) - 1 := by unfold wrap64; omega
        have HS4 := hidIt hs4
        have HG4 := hidIt (only_trans HG3.out hg4)
        have HO4 := hidIt (HO3.out.kept hg4 (fun g e => by injection e with e; subst e; exact ⟨fun e2 => by have := (HO3.out.block _ e2).1; omega, fun h => HSB.out h.1⟩))
        have HR4 := hidIt (by have h1 := HR3.out; rw [← hg4.block _ (lt_of_block h1) (fun e => by injection e with e; omega)] at h1; exact h1 : W4.heap[w.heap.size + 1]? = some (.cells #[.int .i64 0, .string ⟨#[]⟩, .slice none 0 0] 24 (0, 0)))
        have HZ4 := hidIt (by have h1 := HZ3.out; rw [← hg4.block _ (lt_of_block h1) (fun e => by injection e with e; exact hp5b e.symm)] at h1; exact h1 : W4.heap[p5]? = some (.cells #[.int .i64 op, .string name, .slice a5 ts.length c5] 24 (0, 0)))
        clear hs4 hg4
        have hset : W4.grownBy (W4.setCell ⟨p5, 0, none⟩ (.int .i64 ((z11 : Int) - 1))) (some p5) := only_setCell (p := ⟨p5, 0, none⟩) (only_refl W4 (some p5)) (.inl rfl) _
        obtain ⟨a6, c6, e6, hc61, hc62, hf6⟩ := forms_apart (p4 := w.heap.size + 1) HO4.out HSUB.out HNE.out (by have := HSZ0.out; omega) hset
        injection e6 with e61 e62 e63
        subst e61 e63
        have HE : Hid (SpE N (fun i => S i ∧ i < w.heap.size) (.node op name ts) w B b (w.heap.size + 1) p5 zs ((z11 : Int) - 1) name a5 c5 ts (W4.setCell ⟨p5, 0, none⟩ (.int .i64 ((z11 : Int) - 1)))) :=
          ⟨hbl, by omega, fun i h => h.2, ⟨_, HS4.out.kept hset (fun g e => by have := HS4.out.base; injection e with e; exact ⟨by omega, by omega⟩)⟩, setCell_heap_self HZ4.out _, by rw [hset.block _ (lt_of_block HR4.out) (fun e => hp4 (by injection e))]; exact HR4.out, hf6, by unfold I64; omega, hc61, hc62, only_new HG4.out hset (by omega), by simp only [Tree.nodes]; omega, nmLe_node (by have := of_decide_eq_true (all_self HNM.out).1; exact Nat.le_trans this (by omega)) (fun t ht => nmLe_up (by omega) (allL_mem (all_self HNM.out).2 t ht)), hN⟩
        obtain ⟨y0, y1, y2⟩ := cell_of3 HZ4.out
        obtain ⟨g0, g1, g2⟩ := cells_free HZ4.out
        obtain ⟨r0, r1, r2⟩ := cell_of3 HR4.out
        obtain ⟨f0, f1, f2⟩ := cells_free HR4.out
        have hrl := lt_of_block HR4.out
        have hyl := lt_of_block HZ4.out
        clear hset hf6
        go_wp2_with fail
        refine bodyPost_ret (v := .agg #[.int .i64 ((z11 : Int) - 1), .string name, .slice a5 ts.length c5]) (by simp [results, Tryd.results9, go_sem, r0, r1, r2, hrl, hp4, hp4']) rfl ?_
        exact HE.out.done
      · go_wp2_with fail
        have Y1 : ∀ wx, (W3.grownBy wx (some b) ∧ ∃ q, SrcAt wx B b zs q) → wx.cell? ⟨p5, 1, none⟩ = some (.string name) := fun wx hC => hC.1.cell (cell_of3 HZ3.out).2.1 (fun e => hp5b (by injection e with e; exact e.symm))
        have hbW : b < W3.heap.size := HS3.out.lt
        have hyl := lt_of_block HZ3.out
        have hnmz : name.size ≤ N := of_decide_eq_true (all_self HNM.out).1
        haveI : Nonempty (In fun wx => W3.grownBy wx (some b) ∧ ∃ q, SrcAt wx B b zs q) := ⟨⟨W3, only_refl _ _, _, HS3.out⟩⟩
        refine Own.wp_region_tail 7 (fun wx => W3.grownBy wx (some b) ∧ ∃ q, SrcAt wx B b zs q) (fun x y => x.grownBy y (some b)) (Own.relTab [(56, Own.rA (isTexts W3.heap.size)), (57, Own.rA isShort)]) (by kernel_rfl) (by kernel_rfl) (by kernel_rfl) (by kernel_rfl) (by kernel_rfl) (by kernel_rfl) ⟨fun _ _ h => h.size, fun s r hs v x y hx hy hg hr => ?_⟩ ⟨only_of_below (Below.refl _ _).drew _, _, HS3.out.grow (only_of_below (Below.refl _ _).drew none)⟩ ?_
        · unfold Own.relTab at hs
          split at hs
          · injection hs with hs
            subst hs
            obtain ⟨nb, h1, h2, h3⟩ := hr
            exact ⟨nb, h1, h2, by rw [hg.block nb (lt_of_block h3) (fun e => by injection e with e; omega)]; exact h3⟩
          · unfold Own.relTab at hs
            split at hs
            · injection hs with hs
              subst hs
              exact hr
            · cases hs
        simp only [Own.idleTail]
        repeat (
          refine' Own.walkR_plain (by kernel_rfl) rfl rfl (fun wx hC hL => ?_) ?_
          rotate_left
          · (have hlw := Nat.lt_of_lt_of_le hyl hC.1.size
             simp only [Y1 wx hC, hlw, go_sem]; first | done | (go_simp; exact ⟨rfl, rfl⟩))
          simp only [Act.put, List.setIfInBounds_toArray, List.set_cons_zero, List.set_cons_succ])
        refine Own.walkR_rel (by kernel_rfl) rfl rfl (of_decide_eq_true (by kernel_rfl)) (fun wx hC hL => ?_) (fun v hv => ?_)
        · go_simp
          exact ⟨⟨only_alloc hC.1 _, hC.2.imp fun q h => h.alloc _⟩, only_alloc (only_refl _ _) _, ⟨_, rfl, hC.1.size, heap_alloc_new _ _⟩, fun h => by cases h⟩
        obtain ⟨_, _, nb6, rfl, -⟩ := hv
        simp only [Act.put, List.setIfInBounds_toArray, List.set_cons_zero, List.set_cons_succ]
        refine Own.walkR_rel (by kernel_rfl) rfl rfl (of_decide_eq_true (by kernel_rfl)) (fun wx hC hL => ?_) (fun v hv => ?_)
        · go_simp
          obtain ⟨nb, e, hn1, hn2⟩ : isTexts W3.heap.size (.slice (some ⟨nb6, 0, none⟩) 4 4) wx := hL.get 56 (by simp [Own.more]) (by kernel_rfl) rfl rfl
          injection e with e
          injection e with e
          injection e with e
          subst e
          obtain ⟨q, hq⟩ := hC.2
          refine (stext_any nb6 spS (by decide) (by decide) B b zs q wx hq hn2 (by omega)).mono ?_
          rintro e w' ⟨sx, q', rfl, hmem, hsx, hgx⟩
          exact ⟨_, rfl, ⟨only_trans hC.1 hgx, _, hsx⟩, hgx, ⟨sx, rfl, spS_size sx hmem⟩, fun h => by cases h⟩
        obtain ⟨_, _, sx, rfl, hsx⟩ := hv
        have hcl : ¬ 9223372036854775807 < name.size + sx.size := by omega
        simp only [Act.put, List.setIfInBounds_toArray, List.set_cons_zero, List.set_cons_succ]
        repeat (
          refine' Own.walkR_plain (by kernel_rfl) rfl rfl (fun wx hC hL => ?_) ?_
          rotate_left
          · (have hlw := Nat.lt_of_lt_of_le hyl hC.1.size
             simp only [Y1 wx hC, hlw, go_sem]; first | done | (go_simp; exact ⟨rfl, rfl⟩))
          simp only [Act.put, List.setIfInBounds_toArray, List.set_cons_zero, List.set_cons_succ])
        refine' Own.walkR_idle (by rfl) ?_ ?_
        · exact fun wx _ => only_refl wx (some b)
        refine fun W4 hC4 hK => ?_
        obtain ⟨hg4, k4, hs4⟩ := hC4
        clear hK
        simp only [List.drop_succ_cons, List.drop_zero]
        have HS4 := hidIt hs4
        have HG4 := hidIt (only_trans HG3.out hg4)
        have HO4 := hidIt (HO3.out.kept hg4 (fun g e => by injection e with e; subst e; exact ⟨fun e2 => by have := (HO3.out.block _ e2).1; omega, fun h => HSB.out h.1⟩))
        have HR4 := hidIt (by have h1 := HR3.out; rw [← hg4.block _ (lt_of_block h1) (fun e => by injection e with e; omega)] at h1; exact h1 : W4.heap[w.heap.size + 1]? = some (.cells #[.int .i64 0, .string ⟨#[]⟩, .slice none 0 0] 24 (0, 0)))
        have HZ4 := hidIt (by have h1 := HZ3.out; rw [← hg4.block _ (lt_of_block h1) (fun e => by injection e with e; exact hp5b e.symm)] at h1; exact h1 : W4.heap[p5]? = some (.cells #[.int .i64 op, .string name, .slice a5 ts.length c5] 24 (0, 0)))
        clear hs4 hg4
        have hcat : (name ++ sx).size ≤ N + 1 := by rw [ByteArray.size_append]; omega
        have hset : W4.grownBy (W4.setCell ⟨p5, 1, none⟩ (.string (name ++ sx))) (some p5) := only_setCell (p := ⟨p5, 1, none⟩) (only_refl W4 (some p5)) (.inl rfl) _
        obtain ⟨a6, c6, e6, hc61, hc62, hf6⟩ := forms_apart (p4 := w.heap.size + 1) HO4.out HSUB.out HNE.out (by have := HSZ0.out; omega) hset
        injection e6 with e61 e62 e63
        subst e61 e63
        have HE : Hid (SpE N (fun i => S i ∧ i < w.heap.size) (.node op name ts) w B b (w.heap.size + 1) p5 zs op (name ++ sx) a5 c5 ts (W4.setCell ⟨p5, 1, none⟩ (.string (name ++ sx)))) :=
          ⟨hbl, by omega, fun i h => h.2, ⟨_, HS4.out.kept hset (fun g e => by have := HS4.out.base; injection e with e; exact ⟨by omega, by omega⟩)⟩, setCell_heap_self HZ4.out _, by rw [hset.block _ (lt_of_block HR4.out) (fun e => hp4 (by injection e))]; exact HR4.out, hf6, hop, hc61, hc62, only_new HG4.out hset (by omega), by simp only [Tree.nodes]; omega, nmLe_node hcat (fun t ht => nmLe_up (by omega) (allL_mem (all_self HNM.out).2 t ht)), hN⟩
        obtain ⟨y0, y1, y2⟩ := cell_of3 HZ4.out
        obtain ⟨g0, g1, g2⟩ := cells_free HZ4.out
        obtain ⟨r0, r1, r2⟩ := cell_of3 HR4.out
        obtain ⟨f0, f1, f2⟩ := cells_free HR4.out
        have hrl := lt_of_block HR4.out
        have hyl := lt_of_block HZ4.out
        clear hset hf6
        go_wp2_with fail
        refine bodyPost_ret (v := .agg #[.int .i64 op, .string (name ++ sx), .slice a5 ts.length c5]) (by simp [results, Tryd.results9, go_sem, r0, r1, r2, hrl, hp4, hp4']) rfl ?_
        exact HE.out.done
      · go_wp2_with fail
        have x2 := (cell_of3 HZ3.out).2.2
        have y2 := (cells_free HZ3.out).2.2
        have HO3d := hidIt (HO3.out.go (Below.refl _ _).drew)
        have HS3d := hidIt (HS3.out.grow (only_of_below (Below.refl _ _).drew none))
        have hbW : b < W3.heap.size := HS3.out.lt
        have hW0 : W0.heap.size ≤ W3.heap.size := by omega
        have HOB := hidIt (HO3.out.block)
        have HOW : Hid (∀ i, ((S i ∧ i < w.heap.size) ∨ W3.heap.size ≤ i) → (Value.slice a5 ts.length c5).ownBlock ≠ some i) := fun i hi e => by
          have h1 := HOB.out i e
          have h2 := HSZ0.out
          omega
        go_region_law (first
          | ((refine step_append_formG (by rfl) (.tmp 63) (.tmp 66) (by rfl) W0.heap.size (fun i => (S i ∧ i < w.heap.size) ∨ W3.heap.size ≤ i) (.slice a5 ts.length c5) ts (by rfl) (((HO3d.out.kept hg4 (fun g e => by injection e with e; subst e; exact ⟨fun e2 => by have := (HOB.out _ e2).1; omega, fun h => HSB.out h.1⟩)).go (Grows.alloc _ _)).mono (fun i h => .inl h)) HOW.out _ 1 (by rfl) (heap_alloc_new W4 _) t2 ((hf2.mono (fun i _ hi => .inr hi)).go (Grows.alloc _ _)) (by omega) (by have h1 : W3.heap.size ≤ W4.heap.size := hg4.size; simp; omega) ?_); intro a6 c6 W5 hown5 hg5 hbl5; have hz5 : W5.heap[p5]? = some (.cells #[.int .i64 op, .string name, .slice a5 ts.length c5] 24 (0, 0)) := (hg5.block p5 (lt_of_block (blk_kept hz4 (Grows.alloc _ _))) (fun e => HNE.out e.symm)).trans (blk_kept hz4 (Grows.alloc _ _)); have x5 := (cell_of3 hz5).2.2; have y5 := (cells_free hz5).2.2; have l5 := lt_of_block hz5)
          | (go_simp; go_at_call 8; refine (sform_any 3 (by omega) (by omega) 1 (by omega) B b zs k3 _ HS3d.out).mono ?_; rintro e W4 ⟨t2, o2, s2, a2, m2, c2, k4, rfl, hgood, hdep, hf2, hs4, hg4⟩; have hz4 : W4.heap[p5]? = some (.cells #[.int .i64 op, .string name, .slice a5 ts.length c5] 24 (0, 0)) := (hg4.block p5 h5p3 (fun e => hp5b (by injection e with e; exact e.symm))).trans HZ3.out; have x3 := (cell_of3 hz4).2.2; have l3 := lt_of_block hz4))
        all_goals
          have hsz4 : W3.heap.size ≤ W4.heap.size := hg4.size
          have hg45 : W4.grownBy (W4.alloc (.cells #[.int .i64 o2, .string s2, .slice a2 m2 c2] 24)) none := only_alloc (only_refl _ _) _
          have hown6 : ∀ g, (Value.slice a5 ts.length c5).ownBlock = some g → W0.heap.size ≤ g ∧ g ≠ b := fun g e => by have := HOB.out g e; omega
          have hs5 := ((hs4.alloc (.cells #[.int .i64 o2, .string s2, .slice a2 m2 c2] 24)).kept hg5 (fun g e => by have h1 := hown6 g e; have h2 := hs4.base; exact ⟨by have := HSZ0.out; omega, h1.2⟩))
          have hgw4 : w.grownBy (W4.alloc (.cells #[.int .i64 o2, .string s2, .slice a2 m2 c2] 24)) (some b) := only_alloc (only_trans (only_trans HG3.out (only_of_below (Below.refl _ _).drew _)) hg4) _
          have hgw5 : w.grownBy W5 (some b) := by
            refine ⟨hg5.os.trans hgw4.os, hg5.tape.trans hgw4.tape, hg5.output.trans hgw4.output, Nat.le_trans hgw4.size hg5.size, fun i hi hne => (hg5.block i (Nat.lt_of_lt_of_le hi hgw4.size) (fun e => ?_)).trans (hgw4.block i hi hne)⟩
            have h1 := hown6 i e.symm
            have h2 := HSZ0.out
            omega
          have hr5 : W5.heap[w.heap.size + 1]? = some (.cells #[.int .i64 0, .string ⟨#[]⟩, .slice none 0 0] 24 (0, 0)) := by
            have h1 : W4.heap[w.heap.size + 1]? = some (.cells #[.int .i64 0, .string ⟨#[]⟩, .slice none 0 0] 24 (0, 0)) := (hg4.block (w.heap.size + 1) (lt_of_block HR3.out) (fun e => by injection e with e; omega)).trans HR3.out
            have h2 := blk_kept h1 (Grows.alloc W4 (.cells #[.int .i64 o2, .string s2, .slice a2 m2 c2] 24))
            exact (hg5.block _ (lt_of_block h2) (fun e => by have h3 := hown6 _ e.symm; have h4 := HSZ0.out; omega)).trans h2
          have hne6 : (Value.slice a6 (ts.length + 1) c6).ownBlock ≠ some p5 := fun e => by
            rcases hbl5 with h | h
            · exact HNE.out (h.symm.trans e)
            · rw [h] at e
              injection e with e
              simp at e
              omega
          have hset : W5.grownBy (W5.setCell ⟨p5, 2, none⟩ (.slice a6 (ts.length + 1) c6)) (some p5) := only_setCell (p := ⟨p5, 2, none⟩) (only_refl W5 (some p5)) (.inl rfl) _
          have hle : (ts ++ [t2]).length = ts.length + 1 := by simp
          obtain ⟨a7, c7, e7, hc71, hc72, hf7⟩ := forms_apart (p4 := w.heap.size + 1) hown5 (fun i hi => by omega) hne6 (by have := HSZ0.out; omega) hset
          rw [hle] at e7
          injection e7 with e71 e72 e73
          subst e71 e73
          have hf8 : FormsIn (W5.setCell ⟨p5, 2, none⟩ (.slice a6 (ts.length + 1) c6)) (fun i => (S i ∧ i < w.heap.size) ∨ w.heap.size + 1 < i) a6 (ts ++ [t2]) := hf7.mono fun i _ hi => by
            rcases hi with (h | h) | h
            · exact .inl h
            · exact .inr (by omega)
            · exact .inr h
          have hn2 : t2.nodes ≤ 4 := gen_nodes t2 1 hgood hdep
          have HE : Hid (SpE N (fun i => S i ∧ i < w.heap.size) (.node op name ts) w B b (w.heap.size + 1) p5 zs op name a6 c6 (ts ++ [t2]) (W5.setCell ⟨p5, 2, none⟩ (.slice a6 (ts.length + 1) c6))) :=
            ⟨hbl, by omega, fun i h => h.2, ⟨_, hs5.kept hset (fun g' e => by have := hs5.base; injection e with e; exact ⟨by omega, by omega⟩)⟩, by rw [hle]; exact setCell_heap_self hz5 _, by rw [hset.block _ (lt_of_block hr5) (fun e => hp4 (by injection e))]; exact hr5, hf8, hop, hc71, hc72, only_new hgw5 hset (by omega), by simp only [Tree.nodes, nodesL_append, nodesL]; omega, nmLe_node (by have := of_decide_eq_true (all_self HNM.out).1; exact Nat.le_trans this (by omega)) (fun t ht => by
              rcases List.mem_append.1 ht with h | h
              · exact nmLe_up (by omega) (allL_mem (all_self HNM.out).2 t h)
              · rw [List.mem_singleton.1 h]
                exact nmLe_gen (by omega) hgood), hN⟩
          obtain ⟨q0, q1, q2⟩ := cell_of3 hz5
          obtain ⟨g0, g1, g2⟩ := cells_free hz5
          obtain ⟨r0, r1, r2⟩ := cell_of3 hr5
          obtain ⟨f0, f1, f2⟩ := cells_free hr5
          have hrl := lt_of_block hr5
          clear hset hf7 hf8 hz5 hr5 hgw5 hgw4 hs5 hg45 hown5 hg5 hbl5 hz4 hs4 hg4 hf2 x2 y2
          go_wp2_with fail
          refine bodyPost_ret (v := .agg #[.int .i64 op, .string name, .slice a6 (ts.length + 1) c6]) (by simp [results, Tryd.results9, go_sem, r0, r1, r2, hrl, hp4, hp4']) rfl ?_
          have h9 := HE.out.done
          rw [hle] at h9
          exact h9
      · obtain ⟨g, rfl⟩ : ∃ g, a5 = some ⟨g, 0, none⟩ := by
          obtain ⟨ar, cr, er, -, -, -, h⟩ := HO3.out.row
          injection er with e1 e2 e3
          obtain ⟨g, hg, -⟩ := h h0
          exact ⟨g, e1.trans hg⟩
        obtain ⟨t0, tl, htl⟩ : ∃ t0 tl, ts = t0 :: tl := by
          cases ts with
          | nil => simp at h0
          | cons x y => exact ⟨x, y, rfl⟩
        have hnodt : (Tree.node op name tl).nodes ≤ (Tree.node op name ts).nodes := by rw [htl]; simp only [Tree.nodes, nodesL]; omega
        have hmem : ∀ t ∈ tl, t ∈ ts := fun t ht => by rw [htl]; simp [ht]
        have hlen : ts.length = tl.length + 1 := by rw [htl]; rfl
        have HFT : Hid (∀ W', W3.grownBy W' (some p5) → FormsIn W' (fun i => (S i ∧ i < w.heap.size) ∨ w.heap.size + 1 < i) (some ⟨g, 3, none⟩) tl) := fun W' hg => by
          obtain ⟨a6, c6, e6, -, -, hf6⟩ := forms_apart (p4 := w.heap.size + 1) HO3.out HSUB.out HNE.out (by have := HSZ0.out; omega) hg
          injection e6 with e61 e62 e63
          subst e61
          rw [htl] at hf6
          exact hf6.tail
        have hnmt : (Tree.node op name tl).all (nmLe (N + 1)) = true := nmLe_node (by have := of_decide_eq_true (all_self HNM.out).1; exact Nat.le_trans this (by omega)) (fun t ht => nmLe_up (by omega) (allL_mem (all_self HNM.out).2 t (hmem t ht)))
        have hc5 : tl.length + 1 ≤ c5 := by omega
        have h1n : (1 : Int) ≤ (tl.length : Int) + 1 := by omega
        have HNT := hidIt hnmt
        have HND2 := hidIt hnodt
        clear hnmt hnodt hmem htl HIH HNM
        rw [hlen] at HZ3 h0' ⊢
        clear hlen h0 h0' h5l
        by_cases hc1 : c5 = 1
        case pos =>
          subst hc1
          obtain ⟨n, hn⟩ : ∃ n, n = tl.length := ⟨_, rfl⟩
          have hn0 : n = 0 := by omega
          subst hn0
          rw [← hn] at HZ3 h1n hc5 ⊢
          have htn : tl = [] := List.eq_nil_of_length_eq_zero hn.symm
          subst htn
          clear hn HFT hc5 h1n
          simp only [Nat.zero_add] at HZ3 ⊢
          have hset : W3.grownBy (W3.setCell ⟨p5, 2, none⟩ (.slice (some ⟨g, 0, none⟩) 0 0)) (some p5) := only_setCell (p := ⟨p5, 2, none⟩) (only_refl W3 (some p5)) (.inl rfl) _
          have HE : Hid (SpE N (fun i => S i ∧ i < w.heap.size) (.node op name ts) w B b (w.heap.size + 1) p5 zs op name (some ⟨g, 0, none⟩) 0 [] (W3.setCell ⟨p5, 2, none⟩ (.slice (some ⟨g, 0, none⟩) 0 0))) :=
            ⟨hbl, by omega, fun i h => h.2, ⟨_, HS3.out.kept hset (fun g' e => by have := HS3.out.base; injection e with e; exact ⟨by omega, by omega⟩)⟩, setCell_heap_self HZ3.out _, by rw [hset.block _ (lt_of_block HR3.out) (fun e => hp4 (by injection e))]; exact HR3.out, FormsIn.nil _, hop, Nat.le_refl _, Nat.zero_le _, only_new HG3.out hset (by omega), Nat.le_trans HND2.out (by omega), HNT.out, hN⟩
          obtain ⟨y0, y1, y2⟩ := cell_of3 HZ3.out
          obtain ⟨g0, g1, g2⟩ := cells_free HZ3.out
          obtain ⟨r0, r1, r2⟩ := cell_of3 HR3.out
          obtain ⟨f0, f1, f2⟩ := cells_free HR3.out
          have hrl := lt_of_block HR3.out
          have hyl := lt_of_block HZ3.out
          clear hset
          go_wp2_with fail
          refine bodyPost_ret (v := .agg #[.int .i64 op, .string name, .slice (some ⟨g, 0, none⟩) 0 0]) (by simp [results, Tryd.results9, go_sem, r0, r1, r2, hrl, hp4, hp4']) rfl ?_
          exact HE.out.done
        case neg =>
          have hset : W3.grownBy (W3.setCell ⟨p5, 2, none⟩ (.slice (some ⟨g, 3, none⟩) tl.length (c5 - 1))) (some p5) := only_setCell (p := ⟨p5, 2, none⟩) (only_refl W3 (some p5)) (.inl rfl) _
          have HE : Hid (SpE N (fun i => S i ∧ i < w.heap.size) (.node op name ts) w B b (w.heap.size + 1) p5 zs op name (some ⟨g, 3, none⟩) (c5 - 1) tl (W3.setCell ⟨p5, 2, none⟩ (.slice (some ⟨g, 3, none⟩) tl.length (c5 - 1)))) :=
            ⟨hbl, by omega, fun i h => h.2, ⟨_, HS3.out.kept hset (fun g' e => by have := HS3.out.base; injection e with e; exact ⟨by omega, by omega⟩)⟩, setCell_heap_self HZ3.out _, by rw [hset.block _ (lt_of_block HR3.out) (fun e => hp4 (by injection e))]; exact HR3.out, HFT.out _ hset, hop, by omega, by unfold maxLen; omega, only_new HG3.out hset (by omega), Nat.le_trans HND2.out (by omega), HNT.out, hN⟩
          obtain ⟨y0, y1, y2⟩ := cell_of3 HZ3.out
          obtain ⟨g0, g1, g2⟩ := cells_free HZ3.out
          obtain ⟨r0, r1, r2⟩ := cell_of3 HR3.out
          obtain ⟨f0, f1, f2⟩ := cells_free HR3.out
          have hrl := lt_of_block HR3.out
          have hyl := lt_of_block HZ3.out
          clear hset
          go_wp2_with fail
          refine bodyPost_ret (v := .agg #[.int .i64 op, .string name, .slice (some ⟨g, 3, none⟩) tl.length (c5 - 1)]) (by simp [results, Tryd.results9, go_sem, r0, r1, r2, hrl, hp4, hp4']) rfl ?_
          exact HE.out.done
      · have hz4 : True := trivial
        have hset : W3.grownBy (W3.setCell ⟨p5, 1, none⟩ (.string ⟨#[]⟩)) (some p5) := only_setCell (p := ⟨p5, 1, none⟩) (only_refl W3 (some p5)) (.inl rfl) _
        obtain ⟨a6, c6, e6, hc61, hc62, hf6⟩ := forms_apart (p4 := w.heap.size + 1) HO3.out HSUB.out HNE.out (by have := HSZ0.out; omega) hset
        injection e6 with e61 e62 e63
        subst e61 e63
        have HE : Hid (SpE N (fun i => S i ∧ i < w.heap.size) (.node op name ts) w B b (w.heap.size + 1) p5 zs op ⟨#[]⟩ a5 c5 ts (W3.setCell ⟨p5, 1, none⟩ (.string ⟨#[]⟩))) :=
          ⟨hbl, by omega, fun i h => h.2, ⟨_, HS3.out.kept hset (fun g e => by have := HS3.out.base; injection e with e; exact ⟨by omega, by omega⟩)⟩, setCell_heap_self HZ3.out _, by rw [hset.block _ (lt_of_block HR3.out) (fun e => hp4 (by injection e))]; exact HR3.out, hf6, hop, hc61, hc62, only_new HG3.out hset (by omega), by simp only [Tree.nodes]; omega, nmLe_node (Nat.zero_le _) (fun t ht => nmLe_up (by omega) (allL_mem (all_self HNM.out).2 t ht)), hN⟩
        obtain ⟨y0, y1, y2⟩ := cell_of3 HZ3.out
        obtain ⟨g0, g1, g2⟩ := cells_free HZ3.out
        obtain ⟨r0, r1, r2⟩ := cell_of3 HR3.out
        obtain ⟨f0, f1, f2⟩ := cells_free HR3.out
        have hrl := lt_of_block HR3.out
        have hyl := lt_of_block HZ3.out
        clear hset hf6
        go_wp2_with fail
        refine bodyPost_ret (v := .agg #[.int .i64 op, .string ⟨#[]⟩, .slice a5 ts.length c5]) (by simp [results, Tryd.results9, go_sem, r0, r1, r2, hrl, hp4, hp4']) rfl ?_
        exact HE.out.done
  case neg =>
    have h0' : decide ((0 : Int) < (ts.length : Int)) = false := decide_eq_false (by omega)
    go_wp2_with fail
    generalize (((w1.setCell ⟨p5, 0, none⟩ (.int .i64 op)).setCell ⟨p5, 1, none⟩ (.string name)).setCell ⟨p5, 2, none⟩ (.slice a5 ts.length c5)) = W1 at *
    clear r0 r1 r2 f0 f1 f2
    refine (sn_nat 5 (by omega) (by omega) B b zs k _ HS1.out).mono ?_
    rintro e W3 ⟨z, k3, rfl, hz5, hs3, hg3⟩
    have HS3 := hidIt hs3
    have HG3 := hidIt (only_trans HG1.out hg3)
    have HO3 := hidIt (HO1.out.kept hg3 (fun g e => by injection e with e; subst e; exact ⟨fun e2 => by have := (HO1.out.block _ e2).1; omega, fun h => HSB.out h.1⟩))
    have HR3 := hidIt (by have h1 := HR1.out; rw [← hg3.block _ (lt_of_block h1) (fun e => by injection e with e; omega)] at h1; exact h1 : W3.heap[w.heap.size + 1]? = some (.cells #[.int .i64 0, .string ⟨#[]⟩, .slice none 0 0] 24 (0, 0)))
    have HZ3 := hidIt (by have h1 := HZ5.out; rw [← hg3.block _ (lt_of_block h1) (fun e => by injection e with e; exact hp5b e.symm)] at h1; exact h1 : W3.heap[p5]? = some (.cells #[.int .i64 op, .string name, .slice a5 ts.length c5] 24 (0, 0)))
    have h5p3 : p5 < W3.heap.size := lt_of_block HZ3.out
    clear hs3 hg3
    rcases (by omega : z = 0 ∨ z = 1 ∨ z = 2 ∨ z = 3 ∨ z = 4) with rfl | rfl | rfl | rfl | rfl
    · go_wp2_with fail
      refine (sn_nat 11 (by omega) (by omega) B b zs k3 _ HS3.out).mono ?_
      rintro e W4 ⟨z11, k4, rfl, hz11, hs4, hg4⟩
      have hsub : wrap64 ((z11 : Int) - 1) = (z11 : Int) - 1 := by unfold wrap64; omega
      have HS4 := hidIt hs4
      have HG4 := hidIt (only_trans HG3.out hg4)
      have HO4 := hidIt (HO3.out.kept hg4 (fun g e => by injection e with e; subst e; exact ⟨fun e2 => by have := (HO3.out.block _ e2).1; omega, fun h => HSB.out h.1⟩))
      have HR4 := hidIt (by have h1 := HR3.out; rw [← hg4.block _ (lt_of_block h1) (fun e => by injection e with e; omega)] at h1; exact h1 : W4.heap[w.heap.size + 1]? = some (.cells #[.int .i64 0, .string ⟨#[]⟩, .slice none 0 0] 24 (0, 0)))
      have HZ4 := hidIt (by have h1 := HZ3.out; rw [← hg4.block _ (lt_of_block h1) (fun e => by injection e with e; exact hp5b e.symm)] at h1; exact h1 : W4.heap[p5]? = some (.cells #[.int .i64 op, .string name, .slice a5 ts.length c5] 24 (0, 0)))
      clear hs4 hg4
      have hset : W4.grownBy (W4.setCell ⟨p5, 0, none⟩ (.int .i64 ((z11 : Int) - 1))) (some p5) := only_setCell (p := ⟨p5, 0, none⟩) (only_refl W4 (some p5)) (.inl rfl) _
      obtain ⟨a6, c6, e6, hc61, hc62, hf6⟩ := forms_apart (p4 := w.heap.size + 1) HO4.out HSUB.out HNE.out (by have := HSZ0.out; omega) hset
      injection e6 with e61 e62 e63
      subst e61 e63
      have HE : Hid (SpE N (fun i => S i ∧ i < w.heap.size) (.node op name ts) w B b (w.heap.size + 1) p5 zs ((z11 : Int) - 1) name a5 c5 ts (W4.setCell ⟨p5, 0, none⟩ (.int .i64 ((z11 : Int) - 1)))) :=
        ⟨hbl, by omega, fun i h => h.2, ⟨_, HS4.out.kept hset (fun g e => by have := HS4.out.base; injection e with e; exact ⟨by omega, by omega⟩)⟩, setCell_heap_self HZ4.out _, by rw [hset.block _ (lt_of_block HR4.out) (fun e => hp4 (by injection e))]; exact HR4.out, hf6, by unfold I64; omega, hc61, hc62, only_new HG4.out hset (by omega), by simp only [Tree.nodes]; omega, nmLe_node (by have := of_decide_eq_true (all_self HNM.out).1; exact Nat.le_trans this (by omega)) (fun t ht => nmLe_up (by omega) (allL_mem (all_self HNM.out).2 t ht)), hN⟩
      obtain ⟨y0, y1, y2⟩ := cell_of3 HZ4.out
      obtain ⟨g0, g1, g2⟩ := cells_free HZ4.out
      obtain ⟨r0, r1, r2⟩ := cell_of3 HR4.out
      obtain ⟨f0, f1, f2⟩ := cells_free HR4.out
      have hrl := lt_of_block HR4.out
      have hyl := lt_of_block HZ4.out
      clear hset hf6
      go_wp2_with fail
      refine bodyPost_ret (v := .agg #[.int .i64 ((z11 : Int) - 1), .string name, .slice a5 ts.length c5]) (by simp [results, Tryd.results9, go_sem, r0, r1, r2, hrl, hp4, hp4']) rfl ?_
      exact HE.out.done
    · go_wp2_with fail
      have Y1 : ∀ wx, (W3.grownBy wx (some b) ∧ ∃ q, SrcAt wx B b zs q) → wx.cell? ⟨p5, 1, none⟩ = some (.string name) := fun wx hC => hC.1.cell (cell_of3 HZ3.out).2.1 (fun e => hp5b (by injection e with e; exact e.symm))
      have hbW : b < W3.heap.size := HS3.out.lt
      have hyl := lt_of_block HZ3.out
      have hnmz : name.size ≤ N := of_decide_eq_true (all_self HNM.out).1
      haveI : Nonempty (In fun wx => W3.grownBy wx (some b) ∧ ∃ q, SrcAt wx B b zs q) := ⟨⟨W3, only_refl _ _, _, HS3.out⟩⟩
      refine Own.wp_region_tail 7 (fun wx => W3.grownBy wx (some b) ∧ ∃ q, SrcAt wx B b zs q) (fun x y => x.grownBy y (some b)) (Own.relTab [(56, Own.rA (isTexts W3.heap.size)), (57, Own.rA isShort)]) (by kernel_rfl) (by kernel_rfl) (by kernel_rfl) (by kernel_rfl) (by kernel_rfl) (by kernel_rfl) ⟨fun _ _ h => h.size, fun s r hs v x y hx hy hg hr => ?_⟩ ⟨only_of_below (Below.refl _ _).drew _, _, HS3.out.grow (only_of_below (Below.refl _ _).drew none)⟩ ?_
      · unfold Own.relTab at hs
        split at hs
        · injection hs with hs
          subst hs
          obtain ⟨nb, h1, h2, h3⟩ := hr
          exact ⟨nb, h1, h2, by rw [hg.block nb (lt_of_block h3) (fun e => by injection e with e; omega)]; exact h3⟩
        · unfold Own.relTab at hs
          split at hs
          · injection hs with hs
            subst hs
            exact hr
          · cases hs
      simp only [Own.idleTail]
      repeat (
        refine' Own.walkR_plain (by kernel_rfl) rfl rfl (fun wx hC hL => ?_) ?_
        rotate_left
        · (have hlw := Nat.lt_of_lt_of_le hyl hC.1.size
           simp only [Y1 wx hC, hlw, go_sem]; first | done | (go_simp; exact ⟨rfl, rfl⟩))
        simp only [Act.put, List.setIfInBounds_toArray, List.set_cons_zero, List.set_cons_succ])
      refine Own.walkR_rel (by kernel_rfl) rfl rfl (of_decide_eq_true (by kernel_rfl)) (fun wx hC hL => ?_) (fun v hv => ?_)
      · go_simp
        exact ⟨⟨only_alloc hC.1 _, hC.2.imp fun q h => h.alloc _⟩, only_alloc (only_refl _ _) _, ⟨_, rfl, hC.1.size, heap_alloc_new _ _⟩, fun h => by cases h⟩
      obtain ⟨_, _, nb6, rfl, -⟩ := hv
      simp only [Act.put, List.setIfInBounds_toArray, List.set_cons_zero, List.set_cons_succ]
      refine Own.walkR_rel (by kernel_rfl) rfl rfl (of_decide_eq_true (by kernel_rfl)) (fun wx hC hL => ?_) (fun v hv => ?_)
      · go_simp
        obtain ⟨nb, e, hn1, hn2⟩ : isTexts W3.heap.size (.slice (some ⟨nb6, 0, none⟩) 4 4) wx := hL.get 56 (by simp [Own.more]) (by kernel_rfl) rfl rfl
        injection e with e
        injection e with e
        injection e with e
        subst e
        obtain ⟨q, hq⟩ := hC.2
        refine (stext_any nb6 spS (by decide) (by decide) B b zs q wx hq hn2 (by omega)).mono ?_
        rintro e w' ⟨sx, q', rfl, hmem, hsx, hgx⟩
        exact ⟨_, rfl, ⟨only_trans hC.1 hgx, _, hsx⟩, hgx, ⟨sx, rfl, spS_size sx hmem⟩, fun h => by cases h⟩
      obtain ⟨_, _, sx, rfl, hsx⟩ := hv
      have hcl : ¬ 9223372036854775807 < name.size + sx.size := by omega
      simp only [Act.put, List.setIfInBounds_toArray, List.set_cons_zero, List.set_cons_succ]
      repeat (
        refine' Own.walkR_plain (by kernel_rfl) rfl rfl (fun wx hC hL => ?_) ?_
        rotate_left
        · (have hlw := Nat.lt_of_lt_of_le hyl hC.1.size
           simp only [Y1 wx hC, hlw, go_sem]; first | done | (go_simp; exact ⟨rfl, rfl⟩))
        simp only [Act.put, List.setIfInBounds_toArray, List.set_cons_zero, List.set_cons_succ])
      refine' Own.walkR_idle (by rfl) ?_ ?_
      · exact fun wx _ => only_refl wx (some b)
      refine fun W4 hC4 hK => ?_
      obtain ⟨hg4, k4, hs4⟩ := hC4
      clear hK
      simp only [List.drop_succ_cons, List.drop_zero]
      have HS4 := hidIt hs4
      have HG4 := hidIt (only_trans HG3.out hg4)
      have HO4 := hidIt (HO3.out.kept hg4 (fun g e => by injection e with e; subst e; exact ⟨fun e2 => by have := (HO3.out.block _ e2).1; omega, fun h => HSB.out h.1⟩))
      have HR4 := hidIt (by have h1 := HR3.out; rw [← hg4.block _ (lt_of_block h1) (fun e => by injection e with e; omega)] at h1; exact h1 : W4.heap[w.heap.size + 1]? = some (.cells #[.int .i64 0, .string ⟨#[]⟩, .slice none 0 0] 24 (0, 0)))
      have HZ4 := hidIt (by have h1 := HZ3.out; rw [← hg4.block _ (lt_of_block h1) (fun e => by injection e with e; exact hp5b e.symm)] at h1; exact h1 : W4.heap[p5]? = some (.cells #[.int .i64 op, .string name, .slice a5 ts.length c5] 24 (0, 0)))
      clear hs4 hg4
      have hcat : (name ++ sx).size ≤ N + 1 := by rw [ByteArray.size_append]; omega
      have hset : W4.grownBy (W4.setCell ⟨p5, 1, none⟩ (.string (name ++ sx))) (some p5) := only_setCell (p := ⟨p5, 1, none⟩) (only_refl W4 (some p5)) (.inl rfl) _
      obtain ⟨a6, c6, e6, hc61, hc62, hf6⟩ := forms_apart (p4 := w.heap.size + 1) HO4.out HSUB.out HNE.out (by have := HSZ0.out; omega) hset
      injection e6 with e61 e62 e63
      subst e61 e63
      have HE : Hid (SpE N (fun i => S i ∧ i < w.heap.size) (.node op name ts) w B b (w.heap.size + 1) p5 zs op (name ++ sx) a5 c5 ts (W4.setCell ⟨p5, 1, none⟩ (.string (name ++ sx)))) :=
        ⟨hbl, by omega, fun i h => h.2, ⟨_, HS4.out.kept hset (fun g e => by have := HS4.out.base; injection e with e; exact ⟨by omega, by omega⟩)⟩, setCell_heap_self HZ4.out _, by rw [hset.block _ (lt_of_block HR4.out) (fun e => hp4 (by injection e))]; exact HR4.out, hf6, hop, hc61, hc62, only_new HG4.out hset (by omega), by simp only [Tree.nodes]; omega, nmLe_node hcat (fun t ht => nmLe_up (by omega) (allL_mem (all_self HNM.out).2 t ht)), hN⟩
      obtain ⟨y0, y1, y2⟩ := cell_of3 HZ4.out
      obtain ⟨g0, g1, g2⟩ := cells_free HZ4.out
      obtain ⟨r0, r1, r2⟩ := cell_of3 HR4.out
      obtain ⟨f0, f1, f2⟩ := cells_free HR4.out
      have hrl := lt_of_block HR4.out
      have hyl := lt_of_block HZ4.out
      clear hset hf6
      go_wp2_with fail
      refine bodyPost_ret (v := .agg #[.int .i64 op, .string (name ++ sx), .slice a5 ts.length c5]) (by simp [results, Tryd.results9, go_sem, r0, r1, r2, hrl, hp4, hp4']) rfl ?_
      exact HE.out.done
    · go_wp2_with fail
      have x2 := (cell_of3 HZ3.out).2.2
      have y2 := (cells_free HZ3.out).2.2
      have HO3d := hidIt (HO3.out.go (Below.refl _ _).drew)
      have HS3d := hidIt (HS3.out.grow (only_of_below (Below.refl _ _).drew none))
      have hbW : b < W3.heap.size := HS3.out.lt
      have hW0 : W0.heap.size ≤ W3.heap.size := by omega
      have HOB := hidIt (HO3.out.block)
      have HOW : Hid (∀ i, ((S i ∧ i < w.heap.size) ∨ W3.heap.size ≤ i) → (Value.slice a5 ts.length c5).ownBlock ≠ some i) := fun i hi e => by
        have h1 := HOB.out i e
        have h2 := HSZ0.out
        omega
      go_region_law (first
        | ((refine step_append_formG (by rfl) (.tmp 63) (.tmp 66) (by rfl) W0.heap.size (fun i => (S i ∧ i < w.heap.size) ∨ W3.heap.size ≤ i) (.slice a5 ts.length c5) ts (by rfl) (((HO3d.out.kept hg4 (fun g e => by injection e with e; subst e; exact ⟨fun e2 => by have := (HOB.out _ e2).1; omega, fun h => HSB.out h.1⟩)).go (Grows.alloc _ _)).mono (fun i h => .inl h)) HOW.out _ 1 (by rfl) (heap_alloc_new W4 _) t2 ((hf2.mono (fun i _ hi => .inr hi)).go (Grows.alloc _ _)) (by omega) (by have h1 : W3.heap.size ≤ W4.heap.size := hg4.size; simp; omega) ?_); intro a6 c6 W5 hown5 hg5 hbl5; have hz5 : W5.heap[p5]? = some (.cells #[.int .i64 op, .string name, .slice a5 ts.length c5] 24 (0, 0)) := (hg5.block p5 (lt_of_block (blk_kept hz4 (Grows.alloc _ _))) (fun e => HNE.out e.symm)).trans (blk_kept hz4 (Grows.alloc _ _)); have x5 := (cell_of3 hz5).2.2; have y5 := (cells_free hz5).2.2; have l5 := lt_of_block hz5)
        | (go_simp; go_at_call 8; refine (sform_any 3 (by omega) (by omega) 1 (by omega) B b zs k3 _ HS3d.out).mono ?_; rintro e W4 ⟨t2, o2, s2, a2, m2, c2, k4, rfl, hgood, hdep, hf2, hs4, hg4⟩; have hz4 : W4.heap[p5]? = some (.cells #[.int .i64 op, .string name, .slice a5 ts.length c5] 24 (0, 0)) := (hg4.block p5 h5p3 (fun e => hp5b (by injection e with e; exact e.symm))).trans HZ3.out; have x3 := (cell_of3 hz4).2.2; have l3 := lt_of_block hz4))
      all_goals
        have hsz4 : W3.heap.size ≤ W4.heap.size := hg4.size
        have hg45 : W4.grownBy (W4.alloc (.cells #[.int .i64 o2, .string s2, .slice a2 m2 c2] 24)) none := only_alloc (only_refl _ _) _
        have hown6 : ∀ g, (Value.slice a5 ts.length c5).ownBlock = some g → W0.heap.size ≤ g ∧ g ≠ b := fun g e => by have := HOB.out g e; omega
        have hs5 := ((hs4.alloc (.cells #[.int .i64 o2, .string s2, .slice a2 m2 c2] 24)).kept hg5 (fun g e => by have h1 := hown6 g e; have h2 := hs4.base; exact ⟨by have := HSZ0.out; omega, h1.2⟩))
        have hgw4 : w.grownBy (W4.alloc (.cells #[.int .i64 o2, .string s2, .slice a2 m2 c2] 24)) (some b) := only_alloc (only_trans (only_trans HG3.out (only_of_below (Below.refl _ _).drew _)) hg4) _
        have hgw5 : w.grownBy W5 (some b) := by
          refine ⟨hg5.os.trans hgw4.os, hg5.tape.trans hgw4.tape, hg5.output.trans hgw4.output, Nat.le_trans hgw4.size hg5.size, fun i hi hne => (hg5.block i (Nat.lt_of_lt_of_le hi hgw4.size) (fun e => ?_)).trans (hgw4.block i hi hne)⟩
          have h1 := hown6 i e.symm
          have h2 := HSZ0.out
          omega
        have hr5 : W5.heap[w.heap.size + 1]? = some (.cells #[.int .i64 0, .string ⟨#[]⟩, .slice none 0 0] 24 (0, 0)) := by
          have h1 : W4.heap[w.heap.size + 1]? = some (.cells #[.int .i64 0, .string ⟨#[]⟩, .slice none 0 0] 24 (0, 0)) := (hg4.block (w.heap.size + 1) (lt_of_block HR3.out) (fun e => by injection e with e; omega)).trans HR3.out
          have h2 := blk_kept h1 (Grows.alloc W4 (.cells #[.int .i64 o2, .string s2, .slice a2 m2 c2] 24))
          exact (hg5.block _ (lt_of_block h2) (fun e => by have h3 := hown6 _ e.symm; have h4 := HSZ0.out; omega)).trans h2
        have hne6 : (Value.slice a6 (ts.length + 1) c6).ownBlock ≠ some p5 := fun e => by
          rcases hbl5 with h | h
          · exact HNE.out (h.symm.trans e)
          · rw [h] at e
            injection e with e
            simp at e
            omega
        have hset : W5.grownBy (W5.setCell ⟨p5, 2, none⟩ (.slice a6 (ts.length + 1) c6)) (some p5) := only_setCell (p := ⟨p5, 2, none⟩) (only_refl W5 (some p5)) (.inl rfl) _
        have hle : (ts ++ [t2]).length = ts.length + 1 := by simp
        obtain ⟨a7, c7, e7, hc71, hc72, hf7⟩ := forms_apart (p4 := w.heap.size + 1) hown5 (fun i hi => by omega) hne6 (by have := HSZ0.out; omega) hset
        rw [hle] at e7
        injection e7 with e71 e72 e73
        subst e71 e73
        have hf8 : FormsIn (W5.setCell ⟨p5, 2, none⟩ (.slice a6 (ts.length + 1) c6)) (fun i => (S i ∧ i < w.heap.size) ∨ w.heap.size + 1 < i) a6 (ts ++ [t2]) := hf7.mono fun i _ hi => by
          rcases hi with (h | h) | h
          · exact .inl h
          · exact .inr (by omega)
          · exact .inr h
        have hn2 : t2.nodes ≤ 4 := gen_nodes t2 1 hgood hdep
        have HE : Hid (SpE N (fun i => S i ∧ i < w.heap.size) (.node op name ts) w B b (w.heap.size + 1) p5 zs op name a6 c6 (ts ++ [t2]) (W5.setCell ⟨p5, 2, none⟩ (.slice a6 (ts.length + 1) c6))) :=
          ⟨hbl, by omega, fun i h => h.2, ⟨_, hs5.kept hset (fun g' e => by have := hs5.base; injection e with e; exact ⟨by omega, by omega⟩)⟩, by rw [hle]; exact setCell_heap_self hz5 _, by rw [hset.block _ (lt_of_block hr5) (fun e => hp4 (by injection e))]; exact hr5, hf8, hop, hc71, hc72, only_new hgw5 hset (by omega), by simp only [Tree.nodes, nodesL_append, nodesL]; omega, nmLe_node (by have := of_decide_eq_true (all_self HNM.out).1; exact Nat.le_trans this (by omega)) (fun t ht => by
            rcases List.mem_append.1 ht with h | h
            · exact nmLe_up (by omega) (allL_mem (all_self HNM.out).2 t h)
            · rw [List.mem_singleton.1 h]
              exact nmLe_gen (by omega) hgood), hN⟩
        obtain ⟨q0, q1, q2⟩ := cell_of3 hz5
        obtain ⟨g0, g1, g2⟩ := cells_free hz5
        obtain ⟨r0, r1, r2⟩ := cell_of3 hr5
        obtain ⟨f0, f1, f2⟩ := cells_free hr5
        have hrl := lt_of_block hr5
        clear hset hf7 hf8 hz5 hr5 hgw5 hgw4 hs5 hg45 hown5 hg5 hbl5 hz4 hs4 hg4 hf2 x2 y2
        go_wp2_with fail
        refine bodyPost_ret (v := .agg #[.int .i64 op, .string name, .slice a6 (ts.length + 1) c6]) (by simp [results, Tryd.results9, go_sem, r0, r1, r2, hrl, hp4, hp4']) rfl ?_
        have h9 := HE.out.done
        rw [hle] at h9
        exact h9
    · have hset : W3.grownBy W3 (some p5) := only_refl W3 (some p5)
      obtain ⟨a6, c6, e6, hc61, hc62, hf6⟩ := forms_apart (p4 := w.heap.size + 1) HO3.out HSUB.out HNE.out (by have := HSZ0.out; omega) hset
      injection e6 with e61 e62 e63
      subst e61 e63
      have HE : Hid (SpE N (fun i => S i ∧ i < w.heap.size) (.node op name ts) w B b (w.heap.size + 1) p5 zs op name a5 c5 ts W3) :=
        ⟨hbl, by omega, fun i h => h.2, ⟨_, HS3.out⟩, HZ3.out, HR3.out, hf6, hop, hc61, hc62, HG3.out, by simp only [Tree.nodes]; omega, nmLe_node (by have := of_decide_eq_true (all_self HNM.out).1; exact Nat.le_trans this (by omega)) (fun t ht => nmLe_up (by omega) (allL_mem (all_self HNM.out).2 t ht)), hN⟩
      obtain ⟨y0, y1, y2⟩ := cell_of3 HZ3.out
      obtain ⟨r0, r1, r2⟩ := cell_of3 HR3.out
      obtain ⟨f0, f1, f2⟩ := cells_free HR3.out
      have hrl := lt_of_block HR3.out
      have hyl := lt_of_block HZ3.out
      clear hset hf6
      go_wp2_with fail
      refine bodyPost_ret (v := .agg #[.int .i64 op, .string name, .slice a5 ts.length c5]) (by simp [results, Tryd.results9, go_sem, r0, r1, r2, hrl, hp4, hp4']) rfl ?_
      exact HE.out.done
    · have hz4 : True := trivial
      have hset : W3.grownBy (W3.setCell ⟨p5, 1, none⟩ (.string ⟨#[]⟩)) (some p5) := only_setCell (p := ⟨p5, 1, none⟩) (only_refl W3 (some p5)) (.inl rfl) _
      obtain ⟨a6, c6, e6, hc61, hc62, hf6⟩ := forms_apart (p4 := w.heap.size + 1) HO3.out HSUB.out HNE.out (by have := HSZ0.out; omega) hset
      injection e6 with e61 e62 e63
      subst e61 e63
      have HE : Hid (SpE N (fun i => S i ∧ i < w.heap.size) (.node op name ts) w B b (w.heap.size + 1) p5 zs op ⟨#[]⟩ a5 c5 ts (W3.setCell ⟨p5, 1, none⟩ (.string ⟨#[]⟩))) :=
        ⟨hbl, by omega, fun i h => h.2, ⟨_, HS3.out.kept hset (fun g e => by have := HS3.out.base; injection e with e; exact ⟨by omega, by omega⟩)⟩, setCell_heap_self HZ3.out _, by rw [hset.block _ (lt_of_block HR3.out) (fun e => hp4 (by injection e))]; exact HR3.out, hf6, hop, hc61, hc62, only_new HG3.out hset (by omega), by simp only [Tree.nodes]; omega, nmLe_node (Nat.zero_le _) (fun t ht => nmLe_up (by omega) (allL_mem (all_self HNM.out).2 t ht)), hN⟩
      obtain ⟨y0, y1, y2⟩ := cell_of3 HZ3.out
      obtain ⟨g0, g1, g2⟩ := cells_free HZ3.out
      obtain ⟨r0, r1, r2⟩ := cell_of3 HR3.out
      obtain ⟨f0, f1, f2⟩ := cells_free HR3.out
      have hrl := lt_of_block HR3.out
      have hyl := lt_of_block HZ3.out
      clear hset hf6
      go_wp2_with fail
      refine bodyPost_ret (v := .agg #[.int .i64 op, .string ⟨#[]⟩, .slice a5 ts.length c5]) (by simp [results, Tryd.results9, go_sem, r0, r1, r2, hrl, hp4, hp4']) rfl ?_
      exact HE.out.done
end Go.Proofs.YtpiiadmjddikfaaDoor
