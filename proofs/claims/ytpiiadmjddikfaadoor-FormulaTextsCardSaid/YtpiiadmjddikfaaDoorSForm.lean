/- The call that builds a formula out of numbers. -/
import Derived.Test.YtpiiadmjddikfaaDoorGen
import Derived.Test.YtpiiadmjddikfaaDoorGrowF
import Derived.Test.YtpiiadmjddikfaaDoorGroup
import Derived.Deep.RegionLaw
import Derived.LoopTactic
namespace Go.Proofs.YtpiiadmjddikfaaDoor
set_option linter.unusedVariables false
set_option linter.unusedSimpArgs false
open Go.RowKit

theorem sn_nat (n : Int) (hn : 1 ≤ n) (hn' : n ≤ 9223372036854775807) (B b : Nat) (zs : List Int) (k : Nat) (w : World) (h : SrcAt w B b zs k) :
    Calls Tryd.prog 20 #[.pointer (some ⟨b, 0, none⟩), .int .i64 n] w fun e w' => ∃ (m k' : Nat), e = .returned (.int .i64 (m : Int)) ∧ (m : Int) < n ∧ SrcAt w' B b zs k' ∧ w.grownBy w' (some b) :=
  (sn_any n hn hn' B b zs k w h).mono fun e w' ⟨z, k', he, ⟨h0, h1⟩, hs, hg⟩ => by
    obtain ⟨m, rfl⟩ : ∃ m : Nat, z = (m : Int) := ⟨z.toNat, by omega⟩
    exact ⟨m, k', he, h1, hs, hg⟩

/-- What the builder leaves. -/
def FPost (n d : Nat) (w : World) (B b : Nat) (zs : List Int) (e : Ending) (w' : World) : Prop :=
  ∃ (t : Tree) (op : Int) (nm : ByteArray) (a : Option Addr) (m c q : Nat), e = .returned (.agg #[.int .i64 op, .string nm, .slice a m c]) ∧ t.all (nodeG n) = true ∧ t.depth ≤ d ∧
    FormIn w' (fun i => w.heap.size ≤ i) (.agg #[.int .i64 op, .string nm, .slice a m c]) t ∧ SrcAt w' B b zs q ∧ w.grownBy w' (some b)

theorem cell_one0 {w : World} {b : Nat} {x : Value} {t : TypeId} (h : w.heap[b]? = some (.cells #[x] t (0, 0))) : w.cell? ⟨b, 0, none⟩ = some x := by simp [World.cell?, h]
theorem only_below {w : World} {b : Nat} {o : Obj} {w' : World} (hg : (w.alloc o).grownBy w' (some b)) : w.grownBy w' (some b) := only_trans (only_alloc (only_refl w _) o) hg

theorem conv_letter (m : Nat) (h : m < 26) (w : World) (z : Int) (hz : z = 97 + (m : Int)) :
    (convert 38 9 (.slice (some ⟨w.heap.size, 0, none⟩) 1 1)).run Tryd.prog (w.alloc (.cells #[.int .u8 z] 5)) = .ok (.string (letter m)) (w.alloc (.cells #[.int .u8 z] 5)) := by
  subst hz
  refine run_convert_bytes_back (P := Tryd.prog) _ 38 9 5 ⟨w.heap.size, 0, none⟩ 1 [UInt8.ofNat (97 + m)] Tryd.underlying38 Tryd.underlying5 Tryd.underlying9 ?_
  intro j hj
  obtain rfl : j = 0 := by simpa using hj
  have h1 : (UInt8.ofNat (97 + m)).toNat = 97 + m := by rw [UInt8.toNat_ofNat']; omega
  have e : (([UInt8.ofNat (97 + m)] : List UInt8)[0].toNat : Int) = 97 + (m : Int) := by show ((UInt8.ofNat (97 + m)).toNat : Int) = _; rw [h1]; omega
  rw [e]
  exact cell_one0 (heap_alloc_new w (.cells #[.int .u8 (97 + (m : Int))] 5))

theorem gen_const (n z : Nat) (hz : z < 2) : (Tree.node (1 + (z : Int)) ⟨#[]⟩ []).all (nodeG n) = true := by
  have : z = 0 ∨ z = 1 := by omega
  rcases this with rfl | rfl <;> rfl
theorem gen_atom (n m : Nat) (hm : m < n) (hn : n ≤ 26) : (Tree.node 3 (letter m) []).all (nodeG n) = true := by
  have h1 := letter_name m (by omega)
  simp only [Tree.all, allL, nodeG, kindB, nameB, Tree.op_node, Tree.name_node, Tree.args_node, Bool.and_eq_true, Bool.or_eq_true, List.any_eq_true, List.mem_range]
  exact ⟨⟨⟨⟨by simp, by simp [h1]⟩, by simp⟩, .inr ⟨m, hm, by simp⟩⟩, trivial⟩

theorem FPost.alloc {n d : Nat} {w w' : World} {B b : Nat} {zs : List Int} {e : Ending} (h : FPost n d w B b zs e w') (o : Obj) : FPost n d w B b zs e (w'.alloc o) := by
  obtain ⟨t, op, nm, a, m, c, q, he, h1, h2, h3, h4, h5⟩ := h
  exact ⟨t, op, nm, a, m, c, q, he, h1, h2, h3.go ((Below.refl _ _).alloc (Nat.le_refl _) o), h4.alloc o, only_alloc h5 o⟩

/-- The row of kinds that the builder draws from. -/
theorem kinds_row (w : World) (j : Nat) (hj : j < 8) : ∃ op : Int, (op = 4 ∨ op = 5 ∨ op = 6 ∨ op = 7 ∨ op = 8) ∧
    (w.alloc (.cells #[.int .i64 4, .int .i64 4, .int .i64 5, .int .i64 5, .int .i64 6, .int .i64 6, .int .i64 7, .int .i64 8] 3)).cell? ⟨w.heap.size, j, none⟩ = some (.int .i64 op) := by
  have key : ∀ (W : World) (j : Nat), j < 8 → W.heap[w.heap.size]? = some (.cells #[.int .i64 4, .int .i64 4, .int .i64 5, .int .i64 5, .int .i64 6, .int .i64 6, .int .i64 7, .int .i64 8] 3 (0, 0)) → ∃ op : Int, (op = 4 ∨ op = 5 ∨ op = 6 ∨ op = 7 ∨ op = 8) ∧ W.cell? ⟨w.heap.size, j, none⟩ = some (.int .i64 op) := by
    intro W j hj hb
    refine ⟨([4, 4, 5, 5, 6, 6, 7, 8] : List Int)[j]'(by simpa using hj), ?_, ?_⟩
    · have : j = 0 ∨ j = 1 ∨ j = 2 ∨ j = 3 ∨ j = 4 ∨ j = 5 ∨ j = 6 ∨ j = 7 := by omega
      rcases this with rfl | rfl | rfl | rfl | rfl | rfl | rfl | rfl <;> simp
    · have : j = 0 ∨ j = 1 ∨ j = 2 ∨ j = 3 ∨ j = 4 ∨ j = 5 ∨ j = 6 ∨ j = 7 := by omega
      rcases this with rfl | rfl | rfl | rfl | rfl | rfl | rfl | rfl <;> simp [World.cell?, hb]
  exact key _ j hj (heap_alloc_new w _)

/-- What a leaf leaves. -/
theorem leaf_post {n d : Nat} {w w2 : World} {B b : Nat} {zs : List Int} {q : Nat} {t : Tree} {op : Int} {nm : ByteArray} (ht : t.all (nodeG n) = true) (ho : t.op = op) (hnm : t.name = nm) (ha : t.args = []) (hop : I64 op) (hs : nm.size ≤ maxLen)
    (hlt : b < w.heap.size) (h : SrcAt w2 B b zs q) (hg : w.grownBy w2 (some b)) :
    FPost n d w B b zs (.returned (.agg #[.int .i64 op, .string nm, .slice none 0 0])) (((w2.setCell ⟨w.heap.size, 0, none⟩ (.int .i64 op)).setCell ⟨w.heap.size, 1, none⟩ (.string nm)).setCell ⟨w.heap.size, 2, none⟩ (.slice none 0 0)) := by
  have hB := h.base
  obtain ⟨o, s, ts⟩ := t
  simp only [Tree.op_node, Tree.name_node, Tree.args_node] at ho hnm ha
  subst ho hnm ha
  have h3 := set_three w2 w.heap.size (.int .i64 o) (.string s) (.slice none 0 0)
  exact ⟨_, o, s, none, 0, 0, q, rfl, ht, by simp [Tree.depth, depthL], FormIn.mk (FormsIn.nil none) rfl hop hs (Nat.le_refl _) (Nat.zero_le _), h.kept h3 (fun g e => by injection e with e; omega), only_new hg h3 (Nat.le_refl _)⟩

/-- The state of the builder's loop: the reader, the formula under way, the result's box. -/
structure FL (w : World) (B b F : Nat) (zs : List Int) (op : Int) (v : Value) (w' : World) : Prop where
  hb : b < w.heap.size
  hF : w.heap.size < F
  src : ∃ q, SrcAt w' B b zs q
  box : w'.heap[F]? = some (.cells #[.int .i64 op, .string ⟨#[]⟩, v] 24 (0, 0))
  res : w'.heap[w.heap.size]? = some (.cells #[.int .i64 0, .string ⟨#[]⟩, .slice none 0 0] 24 (0, 0))
  gr : w.grownBy w' (some b)
section
variable {w w1 w2 : World} {B b F : Nat} {zs : List Int} {op : Int} {v : Value}
theorem FL.other {row : Option Nat} (h : FL w B b F zs op v w1) (hg : w1.grownBy w2 row) (hs : ∃ q, SrcAt w2 B b zs q) (h1 : row ≠ some F) (h2 : row ≠ some w.heap.size) (h3 : w.grownBy w2 (some b)) : FL w B b F zs op v w2 :=
  ⟨h.hb, h.hF, hs, by rw [hg.block F (lt_of_block h.box) (fun e => h1 e.symm)]; exact h.box, by rw [hg.block _ (lt_of_block h.res) (fun e => h2 e.symm)]; exact h.res, h3⟩
theorem FL.go (h : FL w B b F zs op v w1) (hb : Below w1.heap.size w1 w2) : FL w B b F zs op v w2 :=
  h.other (only_of_below hb none) (by obtain ⟨q, hq⟩ := h.src; exact ⟨q, hq.grow (only_of_below hb none)⟩) (by simp) (by simp) (only_trans h.gr (only_of_below hb _))
theorem FL.alloc (h : FL w B b F zs op v w1) (o : Obj) : FL w B b F zs op v (w1.alloc o) := h.go ((Below.refl _ _).alloc (Nat.le_refl _) o)
theorem FL.drew (h : FL w B b F zs op v w1) : FL w B b F zs op v w1.drew := h.go (Below.refl _ _).drew
theorem FL.call {q : Nat} (h : FL w B b F zs op v w1) (hs : SrcAt w2 B b zs q) (hg : w1.grownBy w2 (some b)) : FL w B b F zs op v w2 :=
  h.other hg ⟨q, hs⟩ (fun e => by have := h.hb; have := h.hF; injection e with e; omega) (fun e => by have := h.hb; injection e with e; omega) (only_trans h.gr hg)
theorem FL.append {row : Option Nat} (h : FL w B b F zs op v w1) (hg : w1.grownBy w2 row) (hr : ∀ g, row = some g → F < g) : FL w B b F zs op v w2 := by
  have hF := h.hF
  have hb := h.hb
  refine h.other hg ?_ (fun e => by have := hr F e; omega) (fun e => by have := hr _ e; omega) ?_
  · obtain ⟨q, hq⟩ := h.src
    exact ⟨q, hq.kept hg fun g e => ⟨by have := hr g e; have := hq.base; omega, by have := hr g e; omega⟩⟩
  · cases row with
    | none => exact only_trans h.gr ⟨hg.os, hg.tape, hg.output, hg.size, fun i hi _ => hg.block i hi (by simp)⟩
    | some g => exact only_new h.gr hg (by have := hr g rfl; omega)
theorem FL.store {v' : Value} (h : FL w B b F zs op v w1) : FL w B b F zs op v' (w1.setCell ⟨F, 2, none⟩ v') := by
  have hF := h.hF
  have hb := h.hb
  have hg : w1.grownBy (w1.setCell ⟨F, 2, none⟩ v') (some F) := only_setCell (p := ⟨F, 2, none⟩) (only_refl w1 (some F)) (.inl rfl) v'
  refine ⟨hb, hF, ?_, ?_, by rw [hg.block _ (lt_of_block h.res) (fun e => by injection e with e; omega)]; exact h.res, only_new h.gr hg (by omega)⟩
  · obtain ⟨q, hq⟩ := h.src
    exact ⟨q, hq.kept hg fun g e => by have := hq.base; injection e with e; omega⟩
  · exact setCell_heap_self h.box v'
theorem FL.all (h : FL w B b F zs op v w1) : w1.cell? ⟨F, 2, none⟩ = some v ∧ w1.frozen? ⟨F, 2, none⟩ = false ∧ F < w1.heap.size ∧ Hid (FL w B b F zs op v w1) :=
  ⟨(cell_of3 h.box).2.2, (cells_free h.box).2.2, lt_of_block h.box, h⟩

theorem fl_call {n d : Nat} (ih : ∀ (B b : Nat) (zs : List Int) (k : Nat) (w : World), SrcAt w B b zs k → Calls Tryd.prog 8 #[.pointer (some ⟨b, 0, none⟩), .int .i64 (n : Int), .int .i64 (d : Int)] w (FPost n d w B b zs)) (h : FL w B b F zs op v w1) :
    Calls Tryd.prog 8 #[.pointer (some ⟨b, 0, none⟩), .int .i64 (n : Int), .int .i64 (d : Int)] w1 fun e w2 => ∃ (t : Tree) (o : Int) (s : ByteArray) (a : Option Addr) (m c : Nat), e = .returned (.agg #[.int .i64 o, .string s, .slice a m c]) ∧ (t.all (nodeG n) = true ∧ t.depth ≤ d) ∧
      FormIn w2 (fun i => w1.heap.size ≤ i) (.agg #[.int .i64 o, .string s, .slice a m c]) t ∧ FL w B b F zs op v w2 ∧ w1.grownBy w2 (some b) := by
  obtain ⟨q, hq⟩ := h.src
  refine (ih B b zs q w1 hq).mono ?_
  rintro e w2 ⟨t, o, s, a, m, c, q2, rfl, h1, h2, h3, h4, h5⟩
  exact ⟨t, o, s, a, m, c, rfl, ⟨h1, h2⟩, h3, h.call h4 h5, h5⟩

theorem form_for {u : Value} {t : Tree} {ts : List Tree} {Bo : Nat} (hf : FormIn w2 (fun i => w1.heap.size ≤ i) u t) (ho : OwnF w1 Bo v ts) (hB : Bo ≤ w1.heap.size) (o : Obj) : FormIn (w2.alloc o) (fun k => Bo ≤ k ∧ v.ownBlock ≠ some k) u t :=
  (hf.mono (S' := fun k => Bo ≤ k ∧ v.ownBlock ≠ some k) fun k _ hk => ⟨by omega, fun e => by have := (ho.block k e).2; omega⟩).go ((Below.refl _ _).alloc (Nat.le_refl _) o)
end

/-- The parts of a formula under way. -/
def Parts (n d : Nat) (ts : List Tree) : Prop := ∀ t ∈ ts, t.all (nodeG n) = true ∧ t.depth ≤ d
theorem Parts.snoc {n d : Nat} {ts : List Tree} {t : Tree} (h : Parts n d ts) (ht : t.all (nodeG n) = true ∧ t.depth ≤ d) : Parts n d (ts ++ [t]) := fun x hx => by
  rcases List.mem_append.1 hx with h1 | h1
  · exact h x h1
  · rw [List.mem_singleton.1 h1]; exact ht
theorem Parts.node {n d : Nat} {ts : List Tree} (h : Parts n d ts) {op : Int} (ho : nodeG n (.node op ⟨#[]⟩ ts) = true) : (Tree.node op ⟨#[]⟩ ts).all (nodeG n) = true ∧ (Tree.node op ⟨#[]⟩ ts).depth ≤ d + 1 := by
  have h1 : allL (nodeG n) ts = true := by
    clear ho
    induction ts with
    | nil => rfl
    | cons t ts ih => simp only [allL, (h t (by simp)).1, ih fun x hx => h x (by simp [hx]), Bool.and_self]
  have h2 : depthL ts ≤ d + 1 := by
    clear ho h1
    induction ts with
    | nil => simp [depthL]
    | cons t ts ih =>
      have h3 := (h t (by simp)).2
      have h4 := ih fun x hx => h x (by simp [hx])
      simp only [depthL]
      omega
  simp only [Tree.all, ho, h1, Tree.depth, h2, Bool.and_self, and_self]
theorem node_good {n : Nat} {op : Int} {ts : List Tree} (h : (op = 4 ∧ ts.length = 1) ∨ ((op = 5 ∨ op = 6) ∧ 2 ≤ ts.length ∧ ts.length ≤ 3) ∨ ((op = 7 ∨ op = 8) ∧ ts.length = 2)) : nodeG n (.node op ⟨#[]⟩ ts) = true := by
  have h3 : op ≠ 3 := by omega
  have hk : kindB (.node op ⟨#[]⟩ ts) = true := by
    unfold kindB
    simp only [Tree.op_node, Tree.args_node]
    rcases h with ⟨rfl, h⟩ | ⟨rfl | rfl, h⟩ | ⟨rfl | rfl, h⟩
    · simp [h]
    · simp [h.1, h.2]; omega
    · simp [h.1, h.2]; omega
    · simp [h]
    · simp [h]
  have hn : nameB (.node op ⟨#[]⟩ ts) = true := by
    unfold nameB
    rw [if_neg (show ¬ (Tree.node op ⟨#[]⟩ ts).op = 3 from h3)]
    rfl
  have ha : decide (ts.length ≤ 3) = true := by rw [decide_eq_true_eq]; omega
  have hb : (op != 3) = true := by simpa using h3
  unfold nodeG
  rw [hk, hn]
  show (true && true && decide (ts.length ≤ 3) && (op != 3 || _)) = true
  rw [ha, hb]
  rfl

theorem fl_start {w w1 : World} {B b : Nat} {zs : List Int} {q : Nat} (hb : b < w.heap.size) (hs : SrcAt w1 B b zs q) (hg : w.grownBy w1 (some b)) (hk : w1.heap[w.heap.size]? = some (.cells #[.int .i64 0, .string ⟨#[]⟩, .slice none 0 0] 24 (0, 0))) (hlt : w.heap.size < w1.heap.size) (op : Int) :
    FL w B b (w1.heap.size + 1) zs op (.slice none 0 0) ((w1.alloc (.cells #[.int .i64 4, .int .i64 4, .int .i64 5, .int .i64 5, .int .i64 6, .int .i64 6, .int .i64 7, .int .i64 8] 3)).alloc (.cells #[.int .i64 op, .string ⟨#[]⟩, .slice none 0 0] 24)) := by
  have hb2 : Below w1.heap.size w1 ((w1.alloc (.cells #[.int .i64 4, .int .i64 4, .int .i64 5, .int .i64 5, .int .i64 6, .int .i64 6, .int .i64 7, .int .i64 8] 3)).alloc (.cells #[.int .i64 op, .string ⟨#[]⟩, .slice none 0 0] 24)) := ((Below.refl _ _).alloc (Nat.le_refl _) _).alloc (by simp) _
  exact ⟨hb, by omega, ⟨q, hs.grow (only_of_below hb2 none)⟩, heap_alloc_at (by simp), blk_kept hk hb2, only_trans hg (only_of_below hb2 _)⟩

/-- What is left when the loop has ended. -/
theorem node_post {n d : Nat} {w w1 : World} {B b F : Nat} {zs : List Int} {op : Int} {a : Option Addr} {c : Nat} {ts : List Tree} (h : FL w B b F zs op (.slice a ts.length c) w1) (ho : OwnF w1 (F + 1) (.slice a ts.length c) ts) (hp : Parts n d ts) (hop : I64 op) (hg : nodeG n (.node op ⟨#[]⟩ ts) = true) :
    FPost n (d + 1) w B b zs (.returned (.agg #[.int .i64 op, .string ⟨#[]⟩, .slice a ts.length c])) (((w1.setCell ⟨w.heap.size, 0, none⟩ (.int .i64 op)).setCell ⟨w.heap.size, 1, none⟩ (.string ⟨#[]⟩)).setCell ⟨w.heap.size, 2, none⟩ (.slice a ts.length c)) := by
  have hF := h.hF
  have hb := h.hb
  obtain ⟨q, hq⟩ := h.src
  have hB := hq.base
  have h3 := set_three w1 w.heap.size (.int .i64 op) (.string ⟨#[]⟩) (.slice a ts.length c)
  obtain ⟨a', c', e, hl, hc, hfs⟩ := ho.form
  obtain ⟨rfl, rfl⟩ : a = a' ∧ c = c' := by injection e with e1 e2 e3; exact ⟨e1, e3⟩
  obtain ⟨g1, g2⟩ := hp.node hg
  refine ⟨_, op, ⟨#[]⟩, a, ts.length, c, q, rfl, g1, g2, FormIn.mk (FormsIn.mono (FormsIn.kept hfs (fun i hi hl => h3.block i hl (fun e => by injection e with e; omega))) (fun i _ hi => by omega)) rfl hop nil_le hl hc, hq.kept h3 (fun g e => by injection e with e; omega), only_new h.gr h3 (Nat.le_refl _)⟩

set_option maxRecDepth 100000 in
set_option maxHeartbeats 2000000 in
theorem sform_any (n : Nat) (hn : 1 ≤ n) (hn' : n ≤ 26) : ∀ (d : Nat), d ≤ 10 → ∀ (B b : Nat) (zs : List Int) (k : Nat) (w : World), SrcAt w B b zs k →
    Calls Tryd.prog 8 #[.pointer (some ⟨b, 0, none⟩), .int .i64 (n : Int), .int .i64 (d : Int)] w (FPost n d w B b zs) := by
  intro d
  induction d with
  | zero =>
    intro _ B b zs k w h
    have hlt := h.lt
    have H := hidIt h
    clear h
    go_enter Tryd.func8, Tryd.ntmps8
    go_wp2_with fail
    refine (sn_nat 12 (by omega) (by omega) B b zs k _ (H.out.alloc _)).mono ?_
    rintro e w1 ⟨z, k1, rfl, hz, hs1, hg1⟩
    have HS1 := hidIt hs1
    have HG1 : Hid (w.grownBy w1 (some b)) := only_below hg1
    have HK1 := hidIt (own_kept (heap_alloc_new w _) hg1 (by omega))
    have hR1 := lt_of_block HK1.out
    obtain ⟨r0, r1, r2⟩ := cell_of3 HK1.out
    obtain ⟨f0, f1, f2⟩ := cells_free HK1.out
    clear hs1 hg1
    by_cases hz0 : z = 0
    · subst hz0
      go_wp2_with fail
      refine (sn_nat 2 (by omega) (by omega) B b zs k1 _ HS1.out).mono ?_
      rintro e w2 ⟨m, k2, rfl, hm, hs2, hg2⟩
      have HS2 := hidIt hs2
      have HG2 := hidIt (only_trans HG1.out hg2)
      have HK2 := hidIt (own_kept HK1.out hg2 (by omega))
      clear r0 r1 r2 f0 f1 f2 hR1 hs2 hg2
      have hR2 := lt_of_block HK2.out
      obtain ⟨r0, r1, r2⟩ := cell_of3 HK2.out
      obtain ⟨f0, f1, f2⟩ := cells_free HK2.out
      go_wp2_with fail
      refine bodyPost_ret (v := .agg #[.int .i64 (1 + (m : Int)), .string ⟨#[]⟩, .slice none 0 0]) (by simp [results, Tryd.results8, go_sem, r0, r1, r2, hR2]) rfl ?_
      exact leaf_post (op := 1 + (m : Int)) (nm := ⟨#[]⟩) (gen_const n m (by omega)) rfl rfl rfl (i64_one (by omega)) nil_le hlt HS2.out HG2.out
    · have HA1 := HS1.out
      go_wp2_with fail
      refine (sn_nat (n : Int) (by omega) (by omega) B b zs k1 _ HS1.out).mono ?_
      rintro e w2 ⟨m, k2, rfl, hm, hs2, hg2⟩
      have HS2 := hidIt hs2
      have HG2 := hidIt (only_trans HG1.out hg2)
      have HK2 := hidIt (own_kept HK1.out hg2 (by omega))
      have hcv := conv_letter m (by omega) w2 (97 + (m : Int)) rfl
      clear r0 r1 r2 f0 f1 f2 hR1 hs2 hg2 HA1
      have hR2 := lt_of_block HK2.out
      obtain ⟨r0, r1, r2⟩ := cell_of3 HK2.out
      obtain ⟨f0, f1, f2⟩ := cells_free HK2.out
      go_wp2_with fail
      refine bodyPost_ret (v := .agg #[.int .i64 3, .string (letter m), .slice none 0 0]) (by simp [results, Tryd.results8, go_sem, r0, r1, r2, hR2]) rfl ?_
      exact (leaf_post (op := 3) (nm := letter m) (gen_atom n m (by omega) hn') rfl rfl rfl (i64_one (by omega)) (by rw [letter_size]; unfold maxLen; omega) hlt HS2.out HG2.out).alloc _
  | succ d ih =>
    intro hd B b zs k w h
    have hlt := h.lt
    have H := hidIt h
    clear h
    go_enter Tryd.func8, Tryd.ntmps8
    go_wp2_with fail
    refine (sn_nat 12 (by omega) (by omega) B b zs k _ (H.out.alloc _)).mono ?_
    rintro e w1 ⟨z, k1, rfl, hz, hs1, hg1⟩
    have HS1 := hidIt hs1
    have HG1 : Hid (w.grownBy w1 (some b)) := only_below hg1
    have HK1 := hidIt (own_kept (heap_alloc_new w _) hg1 (by omega))
    have hR1 := lt_of_block HK1.out
    obtain ⟨r0, r1, r2⟩ := cell_of3 HK1.out
    obtain ⟨f0, f1, f2⟩ := cells_free HK1.out
    clear hs1 hg1
    by_cases hz4 : z < 4
    · have hz4' : (z : Int) < 4 := by omega
      by_cases hz0 : z = 0
      · subst hz0
        go_wp2_with fail
        refine (sn_nat 2 (by omega) (by omega) B b zs k1 _ HS1.out).mono ?_
        rintro e w2 ⟨m, k2, rfl, hm, hs2, hg2⟩
        have HS2 := hidIt hs2
        have HG2 := hidIt (only_trans HG1.out hg2)
        have HK2 := hidIt (own_kept HK1.out hg2 (by omega))
        clear r0 r1 r2 f0 f1 f2 hR1 hs2 hg2
        have hR2 := lt_of_block HK2.out
        obtain ⟨r0, r1, r2⟩ := cell_of3 HK2.out
        obtain ⟨f0, f1, f2⟩ := cells_free HK2.out
        go_wp2_with fail
        refine bodyPost_ret (v := .agg #[.int .i64 (1 + (m : Int)), .string ⟨#[]⟩, .slice none 0 0]) (by simp [results, Tryd.results8, go_sem, r0, r1, r2, hR2]) rfl ?_
        exact leaf_post (op := 1 + (m : Int)) (nm := ⟨#[]⟩) (gen_const n m (by omega)) rfl rfl rfl (i64_one (by omega)) nil_le hlt HS2.out HG2.out
      · have HA1 := HS1.out
        go_wp2_with fail
        refine (sn_nat (n : Int) (by omega) (by omega) B b zs k1 _ HS1.out).mono ?_
        rintro e w2 ⟨m, k2, rfl, hm, hs2, hg2⟩
        have HS2 := hidIt hs2
        have HG2 := hidIt (only_trans HG1.out hg2)
        have HK2 := hidIt (own_kept HK1.out hg2 (by omega))
        have hcv := conv_letter m (by omega) w2 (97 + (m : Int)) rfl
        clear r0 r1 r2 f0 f1 f2 hR1 hs2 hg2 HA1
        have hR2 := lt_of_block HK2.out
        obtain ⟨r0, r1, r2⟩ := cell_of3 HK2.out
        obtain ⟨f0, f1, f2⟩ := cells_free HK2.out
        go_wp2_with fail
        refine bodyPost_ret (v := .agg #[.int .i64 3, .string (letter m), .slice none 0 0]) (by simp [results, Tryd.results8, go_sem, r0, r1, r2, hR2]) rfl ?_
        exact (leaf_post (op := 3) (nm := letter m) (gen_atom n m (by omega) hn') rfl rfl rfl (i64_one (by omega)) (by rw [letter_size]; unfold maxLen; omega) hlt HS2.out HG2.out).alloc _
    · obtain ⟨j, rfl⟩ : ∃ j, z = j + 4 := ⟨z - 4, by omega⟩
      obtain ⟨op, hop, hcell⟩ := kinds_row w1 j (by omega)
      have hF0 := hidIt (fl_start hlt HS1.out HG1.out HK1.out hR1 op)
      clear r0 r1 r2 f0 f1 f2 HS1 HG1 HK1
      rcases hop with rfl | rfl | rfl | rfl | rfl
      · go_wp2_with fail
        have hF8 := hF0
        clear hF0 hcell
        go_loopw [10] (fun i wr => ∃ (k : Nat) (ts : List Tree) (a : Option Addr) (c : Nat), k = ts.length ∧ k ≤ 1 ∧ i = .int .i64 k ∧ Hid (FL w B b (w1.heap.size + 1) zs 4 (.slice a ts.length c) wr) ∧ Hid (OwnF wr (w1.heap.size + 1 + 1) (.slice a ts.length c) ts) ∧ Hid (Parts n d ts)) (fun i _ => 1 - (intOf i).toNat)
        case atStart => exact ⟨0, [], none, 0, rfl, by omega, rfl, hF8, OwnF.nil _ _, fun t ht => by cases ht⟩
        case round =>
          clear hF8
          obtain ⟨k, ts, a, c, hk, hk1, rfl, hst, hown, hparts⟩ := hrel
          obtain ⟨x2, y2, hFlt, -⟩ := hst.out.all
          by_cases hlt2 : k < 1
          · go_wp2_with fail
            have HIH := hidIt (ih (by omega))
            have hwd : IntKind.i64.wrap (d : Int) = (d : Int) := IntWalk.i64_in _ (by omega)
            have HO : Hid (OwnF wr.drew (w1.heap.size + 1 + 1) (.slice a ts.length c) ts) := hown.out.go (Below.refl _ _).drew
            go_region_law (first
                | ((refine step_append_form (by rfl) (.tmp 56) (.tmp 62) (by rfl) (w1.heap.size + 1 + 1) (.slice a ts.length c) ts (by rfl) ((HO.out.kept hg2 (fun g e => by injection e with e; omega)).alloc _) _ 1 (by rfl) (heap_alloc_new w2 _) t (form_for hf2 HO.out hFlt _) (by omega) (by have := hcall.all.2.2.1; simp; omega) ?_); intro a5 c5 w5 hown5 hg5; have happ := (hcall.alloc _).append hg5 (fun g e => (HO.out.block g e).1); have x5 := happ.all.1; have y5 := happ.all.2.1; have l5 := happ.all.2.2.1)
                | (go_simp; go_at_call 8; refine (fl_call HIH.out hst.out.drew).mono ?_; rintro e w2 ⟨t, o, s, a2, m2, c2, rfl, hgood, hf2, hcall, hg2⟩; have x3 := hcall.all.1; have l3 := hcall.all.2.2.1))
            all_goals
              have HF5 := hidIt (happ.store (v' := .slice a5 (ts.length + 1) c5))
              have HO5 := hidIt (hown5.kept (only_setCell (p := ⟨w1.heap.size + 1, 2, none⟩) (only_refl w5 (some (w1.heap.size + 1))) (.inl rfl) (.slice a5 (ts.length + 1) c5)) (fun g e => by injection e with e; omega))
              have HP5 := hidIt (hparts.out.snoc hgood)
              clear hf2 hcall hg2 hown5 hg5 happ x3 l3 x5 y5 l5 hgood HO HIH x2 y2 hFlt
              go_wp2_with fail
              go_roundw
              case rel => exact ⟨k + 1, ts ++ [t], a5, c5, by simp; omega, by omega, by go_num, by simpa using HF5, by simpa using HO5, HP5⟩
              case measure => simp [intOf]; omega
          · have hgd := hidIt (node_good (n := n) (op := 4) (ts := ts) (by simp; omega))
            obtain ⟨x0, x1, x2'⟩ := cell_of3 hst.out.box
            obtain ⟨r0, r1, r2⟩ := cell_of3 hst.out.res
            obtain ⟨f0, f1, f2⟩ := cells_free hst.out.res
            have hRl := lt_of_block hst.out.res
            go_wp2_with fail
            refine bodyPost_ret (v := .agg #[.int .i64 4, .string ⟨#[]⟩, .slice a ts.length c]) (by simp [results, Tryd.results8, go_sem, r0, r1, r2, hRl]) rfl ?_
            exact node_post hst.out hown.out hparts.out (i64_small (by omega) (by omega)) hgd.out
      · go_wp2_with fail
        obtain ⟨qq, hqq⟩ := hF0.out.src
        refine (sn_nat 2 (by omega) (by omega) B b zs qq _ hqq).mono ?_
        rintro e w8 ⟨z2, q2, rfl, hz2, hs8, hg8⟩
        have hF8 := hidIt (hF0.out.call hs8 hg8)
        clear hs8 hg8 hqq hF0 hcell
        go_wp2_with fail
        go_loopw [10] (fun i wr => ∃ (k : Nat) (ts : List Tree) (a : Option Addr) (c : Nat), k = ts.length ∧ k ≤ (2 + z2) ∧ i = .int .i64 k ∧ Hid (FL w B b (w1.heap.size + 1) zs 5 (.slice a ts.length c) wr) ∧ Hid (OwnF wr (w1.heap.size + 1 + 1) (.slice a ts.length c) ts) ∧ Hid (Parts n d ts)) (fun i _ => (2 + z2) - (intOf i).toNat)
        case atStart => exact ⟨0, [], none, 0, rfl, by omega, rfl, hF8, OwnF.nil _ _, fun t ht => by cases ht⟩
        case round =>
          clear hF8
          obtain ⟨k, ts, a, c, hk, hk1, rfl, hst, hown, hparts⟩ := hrel
          obtain ⟨x2, y2, hFlt, -⟩ := hst.out.all
          by_cases hlt2 : k < (2 + z2)
          · go_wp2_with fail
            have HIH := hidIt (ih (by omega))
            have hwd : IntKind.i64.wrap (d : Int) = (d : Int) := IntWalk.i64_in _ (by omega)
            have HO : Hid (OwnF wr.drew (w1.heap.size + 1 + 1) (.slice a ts.length c) ts) := hown.out.go (Below.refl _ _).drew
            go_region_law (first
                | ((refine step_append_form (by rfl) (.tmp 56) (.tmp 62) (by rfl) (w1.heap.size + 1 + 1) (.slice a ts.length c) ts (by rfl) ((HO.out.kept hg2 (fun g e => by injection e with e; omega)).alloc _) _ 1 (by rfl) (heap_alloc_new w2 _) t (form_for hf2 HO.out hFlt _) (by omega) (by have := hcall.all.2.2.1; simp; omega) ?_); intro a5 c5 w5 hown5 hg5; have happ := (hcall.alloc _).append hg5 (fun g e => (HO.out.block g e).1); have x5 := happ.all.1; have y5 := happ.all.2.1; have l5 := happ.all.2.2.1)
                | (go_simp; go_at_call 8; refine (fl_call HIH.out hst.out.drew).mono ?_; rintro e w2 ⟨t, o, s, a2, m2, c2, rfl, hgood, hf2, hcall, hg2⟩; have x3 := hcall.all.1; have l3 := hcall.all.2.2.1))
            all_goals
              have HF5 := hidIt (happ.store (v' := .slice a5 (ts.length + 1) c5))
              have HO5 := hidIt (hown5.kept (only_setCell (p := ⟨w1.heap.size + 1, 2, none⟩) (only_refl w5 (some (w1.heap.size + 1))) (.inl rfl) (.slice a5 (ts.length + 1) c5)) (fun g e => by injection e with e; omega))
              have HP5 := hidIt (hparts.out.snoc hgood)
              clear hf2 hcall hg2 hown5 hg5 happ x3 l3 x5 y5 l5 hgood HO HIH x2 y2 hFlt
              go_wp2_with fail
              go_roundw
              case rel => exact ⟨k + 1, ts ++ [t], a5, c5, by simp; omega, by omega, by go_num, by simpa using HF5, by simpa using HO5, HP5⟩
              case measure => simp [intOf]; omega
          · have hgd := hidIt (node_good (n := n) (op := 5) (ts := ts) (by simp; omega))
            obtain ⟨x0, x1, x2'⟩ := cell_of3 hst.out.box
            obtain ⟨r0, r1, r2⟩ := cell_of3 hst.out.res
            obtain ⟨f0, f1, f2⟩ := cells_free hst.out.res
            have hRl := lt_of_block hst.out.res
            go_wp2_with fail
            refine bodyPost_ret (v := .agg #[.int .i64 5, .string ⟨#[]⟩, .slice a ts.length c]) (by simp [results, Tryd.results8, go_sem, r0, r1, r2, hRl]) rfl ?_
            exact node_post hst.out hown.out hparts.out (i64_small (by omega) (by omega)) hgd.out
      · go_wp2_with fail
        obtain ⟨qq, hqq⟩ := hF0.out.src
        refine (sn_nat 2 (by omega) (by omega) B b zs qq _ hqq).mono ?_
        rintro e w8 ⟨z2, q2, rfl, hz2, hs8, hg8⟩
        have hF8 := hidIt (hF0.out.call hs8 hg8)
        clear hs8 hg8 hqq hF0 hcell
        go_wp2_with fail
        go_loopw [10] (fun i wr => ∃ (k : Nat) (ts : List Tree) (a : Option Addr) (c : Nat), k = ts.length ∧ k ≤ (2 + z2) ∧ i = .int .i64 k ∧ Hid (FL w B b (w1.heap.size + 1) zs 6 (.slice a ts.length c) wr) ∧ Hid (OwnF wr (w1.heap.size + 1 + 1) (.slice a ts.length c) ts) ∧ Hid (Parts n d ts)) (fun i _ => (2 + z2) - (intOf i).toNat)
        case atStart => exact ⟨0, [], none, 0, rfl, by omega, rfl, hF8, OwnF.nil _ _, fun t ht => by cases ht⟩
        case round =>
          clear hF8
          obtain ⟨k, ts, a, c, hk, hk1, rfl, hst, hown, hparts⟩ := hrel
          obtain ⟨x2, y2, hFlt, -⟩ := hst.out.all
          by_cases hlt2 : k < (2 + z2)
          · go_wp2_with fail
            have HIH := hidIt (ih (by omega))
            have hwd : IntKind.i64.wrap (d : Int) = (d : Int) := IntWalk.i64_in _ (by omega)
            have HO : Hid (OwnF wr.drew (w1.heap.size + 1 + 1) (.slice a ts.length c) ts) := hown.out.go (Below.refl _ _).drew
            go_region_law (first
                | ((refine step_append_form (by rfl) (.tmp 56) (.tmp 62) (by rfl) (w1.heap.size + 1 + 1) (.slice a ts.length c) ts (by rfl) ((HO.out.kept hg2 (fun g e => by injection e with e; omega)).alloc _) _ 1 (by rfl) (heap_alloc_new w2 _) t (form_for hf2 HO.out hFlt _) (by omega) (by have := hcall.all.2.2.1; simp; omega) ?_); intro a5 c5 w5 hown5 hg5; have happ := (hcall.alloc _).append hg5 (fun g e => (HO.out.block g e).1); have x5 := happ.all.1; have y5 := happ.all.2.1; have l5 := happ.all.2.2.1)
                | (go_simp; go_at_call 8; refine (fl_call HIH.out hst.out.drew).mono ?_; rintro e w2 ⟨t, o, s, a2, m2, c2, rfl, hgood, hf2, hcall, hg2⟩; have x3 := hcall.all.1; have l3 := hcall.all.2.2.1))
            all_goals
              have HF5 := hidIt (happ.store (v' := .slice a5 (ts.length + 1) c5))
              have HO5 := hidIt (hown5.kept (only_setCell (p := ⟨w1.heap.size + 1, 2, none⟩) (only_refl w5 (some (w1.heap.size + 1))) (.inl rfl) (.slice a5 (ts.length + 1) c5)) (fun g e => by injection e with e; omega))
              have HP5 := hidIt (hparts.out.snoc hgood)
              clear hf2 hcall hg2 hown5 hg5 happ x3 l3 x5 y5 l5 hgood HO HIH x2 y2 hFlt
              go_wp2_with fail
              go_roundw
              case rel => exact ⟨k + 1, ts ++ [t], a5, c5, by simp; omega, by omega, by go_num, by simpa using HF5, by simpa using HO5, HP5⟩
              case measure => simp [intOf]; omega
          · have hgd := hidIt (node_good (n := n) (op := 6) (ts := ts) (by simp; omega))
            obtain ⟨x0, x1, x2'⟩ := cell_of3 hst.out.box
            obtain ⟨r0, r1, r2⟩ := cell_of3 hst.out.res
            obtain ⟨f0, f1, f2⟩ := cells_free hst.out.res
            have hRl := lt_of_block hst.out.res
            go_wp2_with fail
            refine bodyPost_ret (v := .agg #[.int .i64 6, .string ⟨#[]⟩, .slice a ts.length c]) (by simp [results, Tryd.results8, go_sem, r0, r1, r2, hRl]) rfl ?_
            exact node_post hst.out hown.out hparts.out (i64_small (by omega) (by omega)) hgd.out
      · go_wp2_with fail
        have hF8 := hF0
        clear hF0 hcell
        go_loopw [10] (fun i wr => ∃ (k : Nat) (ts : List Tree) (a : Option Addr) (c : Nat), k = ts.length ∧ k ≤ 2 ∧ i = .int .i64 k ∧ Hid (FL w B b (w1.heap.size + 1) zs 7 (.slice a ts.length c) wr) ∧ Hid (OwnF wr (w1.heap.size + 1 + 1) (.slice a ts.length c) ts) ∧ Hid (Parts n d ts)) (fun i _ => 2 - (intOf i).toNat)
        case atStart => exact ⟨0, [], none, 0, rfl, by omega, rfl, hF8, OwnF.nil _ _, fun t ht => by cases ht⟩
        case round =>
          clear hF8
          obtain ⟨k, ts, a, c, hk, hk1, rfl, hst, hown, hparts⟩ := hrel
          obtain ⟨x2, y2, hFlt, -⟩ := hst.out.all
          by_cases hlt2 : k < 2
          · go_wp2_with fail
            have HIH := hidIt (ih (by omega))
            have hwd : IntKind.i64.wrap (d : Int) = (d : Int) := IntWalk.i64_in _ (by omega)
            have HO : Hid (OwnF wr.drew (w1.heap.size + 1 + 1) (.slice a ts.length c) ts) := hown.out.go (Below.refl _ _).drew
            go_region_law (first
                | ((refine step_append_form (by rfl) (.tmp 56) (.tmp 62) (by rfl) (w1.heap.size + 1 + 1) (.slice a ts.length c) ts (by rfl) ((HO.out.kept hg2 (fun g e => by injection e with e; omega)).alloc _) _ 1 (by rfl) (heap_alloc_new w2 _) t (form_for hf2 HO.out hFlt _) (by omega) (by have := hcall.all.2.2.1; simp; omega) ?_); intro a5 c5 w5 hown5 hg5; have happ := (hcall.alloc _).append hg5 (fun g e => (HO.out.block g e).1); have x5 := happ.all.1; have y5 := happ.all.2.1; have l5 := happ.all.2.2.1)
                | (go_simp; go_at_call 8; refine (fl_call HIH.out hst.out.drew).mono ?_; rintro e w2 ⟨t, o, s, a2, m2, c2, rfl, hgood, hf2, hcall, hg2⟩; have x3 := hcall.all.1; have l3 := hcall.all.2.2.1))
            all_goals
              have HF5 := hidIt (happ.store (v' := .slice a5 (ts.length + 1) c5))
              have HO5 := hidIt (hown5.kept (only_setCell (p := ⟨w1.heap.size + 1, 2, none⟩) (only_refl w5 (some (w1.heap.size + 1))) (.inl rfl) (.slice a5 (ts.length + 1) c5)) (fun g e => by injection e with e; omega))
              have HP5 := hidIt (hparts.out.snoc hgood)
              clear hf2 hcall hg2 hown5 hg5 happ x3 l3 x5 y5 l5 hgood HO HIH x2 y2 hFlt
              go_wp2_with fail
              go_roundw
              case rel => exact ⟨k + 1, ts ++ [t], a5, c5, by simp; omega, by omega, by go_num, by simpa using HF5, by simpa using HO5, HP5⟩
              case measure => simp [intOf]; omega
          · have hgd := hidIt (node_good (n := n) (op := 7) (ts := ts) (by simp; omega))
            obtain ⟨x0, x1, x2'⟩ := cell_of3 hst.out.box
            obtain ⟨r0, r1, r2⟩ := cell_of3 hst.out.res
            obtain ⟨f0, f1, f2⟩ := cells_free hst.out.res
            have hRl := lt_of_block hst.out.res
            go_wp2_with fail
            refine bodyPost_ret (v := .agg #[.int .i64 7, .string ⟨#[]⟩, .slice a ts.length c]) (by simp [results, Tryd.results8, go_sem, r0, r1, r2, hRl]) rfl ?_
            exact node_post hst.out hown.out hparts.out (i64_small (by omega) (by omega)) hgd.out
      · go_wp2_with fail
        have hF8 := hF0
        clear hF0 hcell
        go_loopw [10] (fun i wr => ∃ (k : Nat) (ts : List Tree) (a : Option Addr) (c : Nat), k = ts.length ∧ k ≤ 2 ∧ i = .int .i64 k ∧ Hid (FL w B b (w1.heap.size + 1) zs 8 (.slice a ts.length c) wr) ∧ Hid (OwnF wr (w1.heap.size + 1 + 1) (.slice a ts.length c) ts) ∧ Hid (Parts n d ts)) (fun i _ => 2 - (intOf i).toNat)
        case atStart => exact ⟨0, [], none, 0, rfl, by omega, rfl, hF8, OwnF.nil _ _, fun t ht => by cases ht⟩
        case round =>
          clear hF8
          obtain ⟨k, ts, a, c, hk, hk1, rfl, hst, hown, hparts⟩ := hrel
          obtain ⟨x2, y2, hFlt, -⟩ := hst.out.all
          by_cases hlt2 : k < 2
          · go_wp2_with fail
            have HIH := hidIt (ih (by omega))
            have hwd : IntKind.i64.wrap (d : Int) = (d : Int) := IntWalk.i64_in _ (by omega)
            have HO : Hid (OwnF wr.drew (w1.heap.size + 1 + 1) (.slice a ts.length c) ts) := hown.out.go (Below.refl _ _).drew
            go_region_law (first
                | ((refine step_append_form (by rfl) (.tmp 56) (.tmp 62) (by rfl) (w1.heap.size + 1 + 1) (.slice a ts.length c) ts (by rfl) ((HO.out.kept hg2 (fun g e => by injection e with e; omega)).alloc _) _ 1 (by rfl) (heap_alloc_new w2 _) t (form_for hf2 HO.out hFlt _) (by omega) (by have := hcall.all.2.2.1; simp; omega) ?_); intro a5 c5 w5 hown5 hg5; have happ := (hcall.alloc _).append hg5 (fun g e => (HO.out.block g e).1); have x5 := happ.all.1; have y5 := happ.all.2.1; have l5 := happ.all.2.2.1)
                | (go_simp; go_at_call 8; refine (fl_call HIH.out hst.out.drew).mono ?_; rintro e w2 ⟨t, o, s, a2, m2, c2, rfl, hgood, hf2, hcall, hg2⟩; have x3 := hcall.all.1; have l3 := hcall.all.2.2.1))
            all_goals
              have HF5 := hidIt (happ.store (v' := .slice a5 (ts.length + 1) c5))
              have HO5 := hidIt (hown5.kept (only_setCell (p := ⟨w1.heap.size + 1, 2, none⟩) (only_refl w5 (some (w1.heap.size + 1))) (.inl rfl) (.slice a5 (ts.length + 1) c5)) (fun g e => by injection e with e; omega))
              have HP5 := hidIt (hparts.out.snoc hgood)
              clear hf2 hcall hg2 hown5 hg5 happ x3 l3 x5 y5 l5 hgood HO HIH x2 y2 hFlt
              go_wp2_with fail
              go_roundw
              case rel => exact ⟨k + 1, ts ++ [t], a5, c5, by simp; omega, by omega, by go_num, by simpa using HF5, by simpa using HO5, HP5⟩
              case measure => simp [intOf]; omega
          · have hgd := hidIt (node_good (n := n) (op := 8) (ts := ts) (by simp; omega))
            obtain ⟨x0, x1, x2'⟩ := cell_of3 hst.out.box
            obtain ⟨r0, r1, r2⟩ := cell_of3 hst.out.res
            obtain ⟨f0, f1, f2⟩ := cells_free hst.out.res
            have hRl := lt_of_block hst.out.res
            go_wp2_with fail
            refine bodyPost_ret (v := .agg #[.int .i64 8, .string ⟨#[]⟩, .slice a ts.length c]) (by simp [results, Tryd.results8, go_sem, r0, r1, r2, hRl]) rfl ?_
            exact node_post hst.out hown.out hparts.out (i64_small (by omega) (by omega)) hgd.out
end Go.Proofs.YtpiiadmjddikfaaDoor
