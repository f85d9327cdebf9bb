/- A region that draws its order, in a class of worlds: one walk in the order of the text serves every order, where each operation leaves the world alone or is a call that gives one value and leaves a world of the class. Formulas as trees, and how they lie in memory. formula.Size and Depth. Which formulas are well-formed, and Validate. A row of strings that a call made. DERIVED: THE SHELF's CONTRACTS AT THIS DUMP, IN PLAIN WORDS (tools/lay-plain.mjs out of 'TrydShelf.lean', which tools/lay-shelf.mjs wrote): THE SAME DECLARATIONS UNDER THE SAME NAMES: 'import', 'namespace', 'open', 'def', 'theorem' AND NOTHING ELSE: no command of the shelf's: FOR A HAND-IN. Each laying: the table of numbers ('.._ren') and one theorem, a field a fact of the dump's own or the kernel's comparison; each contract: ONE APPLICATION. Tokens: inWord and firstToken. The parser's state, and next. Rows of formulas that a call makes. What the parser computes: the formula that a text begins with, if there is one, and what is left of the text. The token that the reference's reader sees: the program's, but "?" where bytes are no token. The same as RefT, but behind Name alone (for the seats of stage 2). The reference's reader: word, token. The parser's functions: negation, primary, group. The parser's group and primary. The parser's pair. A list of formulas that a call owns, and append to it. The parser's row. The parser's functions by the size of the rest: all of them read what the specification says. -/
import Derived.BigQuiet
import Derived.WalkKit
import Derived.Lib.Strings
import Derived.Laws.MakeOwn
import Derived.Shelf.Strings.Builder1
import Derived.Shelf.Strings.Builder2
import Derived.Shelf.Strings.OnBuilder
import Derived.Shelf.Small.Bits
import Derived.Shelf.Strings.BuilderF
import Derived.Shelf.Strings.BuilderK
import Derived.Shelf.Strings.Builder2Cap
import Derived.Shelf.Strconv.Itoa0
import Derived.Shelf.Sort.Plain
import Derived.Shelf.Strings.Prefix
import Derived.Shelf.Strings.BuilderCap
import Derived.Shelf.Slices.In.SortNone
import Derived.Shelf.SlIter.Nil
import Derived.Shelf.SortM.Plain
import Derived.Shelf.SortM.SortNone
import Derived.Ground.GgzProg
import Derived.Ground.SlgmProg
import Derived.Test.YtilkpjcbmllgmaaDoorProg
import Derived.Laws.Rows
import Derived.StillTailTactics
import Derived.Deep.LoopGhost
import Derived.Laws.AppendOwn
import Derived.Laws.AppendOwnNone
import Derived.Laws.EntriesVeiled
import Derived.BigRegion
import Derived.OwnWalk
import Derived.Test.YtilkpjcbmllgmaaDoorFpA

namespace Go.Proofs.YtilkpjcbmllgmaaDoor
set_option linter.unusedVariables false
set_option linter.unusedSimpArgs false
open Go Go.RowKit

/-- A world of the class D. -/
structure In (D : World → Prop) where
  w : World
  h : D w

theorem wp_region_in {P : Program} (D : World → Prop) {id : Nat} {Q : Exit → Act → World → Prop} {a : Act} {w : World} {l : List Oper} (hm : P.follows .mixedOrders = true) (hB : Region.lexB .any l.toArray = true) (hD : D w.drew)
    (h : wpQuiet P l.toArray (fun w' => ∃ x : In D, w' = x.w) (fun a' => ∀ w', (∃ x : In D, w' = x.w) → Q .normal a' w') l a) : (Code.region id l.toArray true).wp P Q a w :=
  wp_region_quiet (C := fun w' => ∃ x : In D, w' = x.w) hm hB ⟨⟨_, hD⟩, rfl⟩ (by simpa using h)

/-- A callee's contract, met in a world of the class. -/
theorem Calls.in_of {P : Program} {f : FuncId} {args : Array Value} {D : World → Prop} {x : In D} {v : Value}
    (h : Calls P f args x.w fun e w' => e = .returned v ∧ D w') : Calls P f args x.w fun e w'' => e = .returned v ∧ ∃ y : In D, w'' = y.w :=
  h.mono fun _ w' ⟨he, hw⟩ => ⟨he, ⟨w', hw⟩, rfl⟩

/-- The worlds that come of W by making memory alone. -/
def Ext (W : World) : World → Prop := fun w' => Below W.heap.size W w'
theorem Ext.start (W : World) : Ext W W.drew := (Below.refl _ _).drew
theorem Ext.nonempty (W : World) : Nonempty (In (Ext W)) := ⟨⟨_, Ext.start W⟩⟩
theorem Ext.cell {W : World} {b o : Nat} {v : Value} (h : W.cell? ⟨b, o, none⟩ = some v) (y : In (Ext W)) : y.w.cell? ⟨b, o, none⟩ = some v :=
  (Below.cell (p := ⟨b, o, none⟩) y.h (World.block_lt_of_cell? W ⟨b, o, none⟩ h)).trans h
theorem Ext.call {P : Program} {f : FuncId} {args : Array Value} {W : World} {x : In (Ext W)} {v : Value}
    (h : Calls P f args x.w fun e w' => e = .returned v ∧ Below x.w.heap.size x.w w') : Calls P f args x.w fun e w'' => e = .returned v ∧ ∃ y : In (Ext W), w'' = y.w :=
  h.mono fun _ w' ⟨he, hw⟩ => ⟨he, ⟨w', Below.trans x.h (hw.mono (Below.size x.h))⟩, rfl⟩
end Go.Proofs.YtilkpjcbmllgmaaDoor

namespace Go.Proofs.YtilkpjcbmllgmaaDoor
set_option linter.unusedVariables false
set_option linter.unusedSimpArgs false
open Go.RowKit

/-- A formula as a tree. -/
inductive Tree where
  | node (op : Int) (name : ByteArray) (args : List Tree)

instance : Inhabited Tree := ⟨.node 0 ⟨#[]⟩ []⟩

theorem Tree.ind {m : Tree → Prop} (h : ∀ op name ts, (∀ t ∈ ts, m t) → m (.node op name ts)) : ∀ t, m t
  | .node op name ts => h op name ts (fun t ht => Tree.ind h t)
termination_by t => t
decreasing_by
  have := List.sizeOf_lt_of_mem ht
  simp
  omega

def Tree.op : Tree → Int | .node op _ _ => op
def Tree.name : Tree → ByteArray | .node _ s _ => s
def Tree.args : Tree → List Tree | .node _ _ ts => ts

theorem Tree.op_node (op : Int) (name : ByteArray) (ts : List Tree) : (Tree.node op name ts).op = op := rfl
theorem Tree.name_node (op : Int) (name : ByteArray) (ts : List Tree) : (Tree.node op name ts).name = name := rfl
theorem Tree.args_node (op : Int) (name : ByteArray) (ts : List Tree) : (Tree.node op name ts).args = ts := rfl

/-- What a call that had its argument boxed leaves. -/
theorem below_box {w w1 : World} {o : Obj} (hb : Below (w.alloc o).heap.size (w.alloc o) w1) : Below w.heap.size w w1 := ((Below.refl _ _).alloc (Nat.le_refl _) o).trans (hb.mono (by simp))

/-- A block that was laid ahead of a call that makes memory alone. -/
theorem laid_box {w w1 : World} {cs : Array Value} {t : TypeId} (hb : Below (w.alloc (.cells cs t)).heap.size (w.alloc (.cells cs t)) w1) : w1.heap[w.heap.size]? = some (.cells cs t (0, 0)) := by
  rw [hb.block w.heap.size (by simp)]
  exact heap_alloc_new w _
theorem blk_kept {w w1 : World} {b : Nat} {o : Obj} (h : w.heap[b]? = some o) (hb : Below w.heap.size w w1) : w1.heap[b]? = some o := by
  rw [hb.block b (lt_of_block h)]
  exact h
theorem heap_alloc_at {w : World} {o : Obj} {n : Nat} (h : n = w.heap.size) : (w.alloc o).heap[n]? = some o := by subst h; exact heap_alloc_new w o
theorem cell_of3 {w : World} {b : Nat} {x y z : Value} {t : TypeId} (h : w.heap[b]? = some (.cells #[x, y, z] t (0, 0))) : w.cell? ⟨b, 0, none⟩ = some x ∧ w.cell? ⟨b, 1, none⟩ = some y ∧ w.cell? ⟨b, 2, none⟩ = some z :=
  ⟨by simp [World.cell?, h], by simp [World.cell?, h], by simp [World.cell?, h]⟩

mutual
def Tree.nodes : Tree → Nat
  | .node _ _ ts => 1 + nodesL ts
def nodesL : List Tree → Nat
  | [] => 0
  | t :: ts => t.nodes + nodesL ts
end

theorem nodesL_append : ∀ (l m : List Tree), nodesL (l ++ m) = nodesL l + nodesL m
  | [], m => by simp [nodesL]
  | t :: l, m => by simp only [List.cons_append, nodesL, nodesL_append l m]; omega

theorem take_snoc' {α : Type} (l : List α) (k : Nat) (h : k < l.length) : l.take (k + 1) = l.take k ++ [l[k]] := List.take_succ_eq_append_getElem h

theorem nodesL_take (l : List Tree) (k : Nat) (h : k < l.length) : nodesL (l.take (k + 1)) = nodesL (l.take k) + (l[k]).nodes := by
  rw [take_snoc' l k h, nodesL_append]
  simp [nodesL]

theorem nodesL_take_le (l : List Tree) (k : Nat) : nodesL (l.take k) ≤ nodesL l := by
  have h := nodesL_append (l.take k) (l.drop k)
  rw [List.take_append_drop] at h
  omega

theorem Tree.nodes_pos (t : Tree) : 0 < t.nodes := by cases t; simp [Tree.nodes]; omega

theorem nodes_mem_le {l : List Tree} {t : Tree} (h : t ∈ l) : t.nodes ≤ nodesL l := by
  obtain ⟨k, hk, rfl⟩ := List.mem_iff_getElem.1 h
  have h1 := nodesL_take l k hk
  have h2 := nodesL_take_le l (k + 1)
  omega

theorem nodes_len_le (l : List Tree) : l.length ≤ nodesL l := by
  induction l with
  | nil => simp
  | cons t l ih => have := t.nodes_pos; simp only [List.length_cons, nodesL]; omega

mutual
def Tree.depth : Tree → Nat
  | .node _ _ ts => depthL ts
def depthL : List Tree → Nat
  | [] => 0
  | t :: ts => max (1 + t.depth) (depthL ts)
end

theorem depthL_append : ∀ (l m : List Tree), depthL (l ++ m) = max (depthL l) (depthL m)
  | [], m => by simp [depthL]
  | t :: l, m => by simp only [List.cons_append, depthL, depthL_append l m]; omega
theorem depthL_take (l : List Tree) (k : Nat) (h : k < l.length) : depthL (l.take (k + 1)) = max (depthL (l.take k)) (1 + (l[k]).depth) := by
  rw [take_snoc' l k h, depthL_append]
  simp [depthL]
theorem depthL_take_le (l : List Tree) (k : Nat) : depthL (l.take k) ≤ depthL l := by
  have h := depthL_append (l.take k) (l.drop k)
  rw [List.take_append_drop] at h
  omega
theorem depth_lt_nodes : ∀ t : Tree, t.depth < t.nodes := Tree.ind fun op name ts ih => by
  have key : ∀ l : List Tree, (∀ t ∈ l, t.depth < t.nodes) → depthL l ≤ nodesL l := by
    intro l hl
    induction l with
    | nil => simp [depthL]
    | cons t l ih2 =>
      have h1 := hl t (by simp)
      have h2 := ih2 fun t ht => hl t (by simp [ht])
      simp only [depthL, nodesL]
      omega
  have := key ts ih
  simp only [Tree.depth, Tree.nodes]
  omega

mutual
/-- Does every node pass the test? -/
def Tree.all (p : Tree → Bool) : Tree → Bool
  | .node op name ts => p (.node op name ts) && allL p ts
def allL (p : Tree → Bool) : List Tree → Bool
  | [] => true
  | t :: ts => t.all p && allL p ts
end
theorem allL_append (p : Tree → Bool) : ∀ (l m : List Tree), allL p (l ++ m) = (allL p l && allL p m)
  | [], m => by simp [allL]
  | t :: l, m => by simp only [List.cons_append, allL, allL_append p l m, Bool.and_assoc]
theorem allL_take (p : Tree → Bool) (l : List Tree) (k : Nat) (h : k < l.length) : allL p (l.take (k + 1)) = (allL p (l.take k) && (l[k]).all p) := by
  rw [take_snoc' l k h, allL_append]
  simp [allL]
theorem allL_take_false (p : Tree → Bool) (l : List Tree) (k : Nat) (h : allL p (l.take k) = false) : allL p l = false := by
  have h2 := allL_append p (l.take k) (l.drop k)
  rw [List.take_append_drop, h] at h2
  simpa using h2

/-- The value is the formula t in the world w; all cells that it reads lie in blocks of S. -/
inductive FormIn (w : World) (S : Nat → Prop) : Value → Tree → Prop
  | node (op : Int) (name : ByteArray) (a : Option Addr) (cap : Nat) (ts : List Tree) (b off : Nat) (o : Nat → Int) (s : Nat → ByteArray) (v : Nat → Value)
    (hop : I64 op) (hname : name.size ≤ maxLen) (hlen : ts.length ≤ cap) (hcap : cap ≤ maxLen)
    (ha : 0 < ts.length → a = some ⟨b, off, none⟩ ∧ S b)
    (hc : ∀ i, i < ts.length → w.cell? ⟨b, off + i * 3, none⟩ = some (.int .i64 (o i)) ∧ w.cell? ⟨b, off + i * 3 + 1, none⟩ = some (.string (s i)) ∧ w.cell? ⟨b, off + i * 3 + 2, none⟩ = some (v i))
    (hs : ∀ i (h : i < ts.length), FormIn w S (.agg #[.int .i64 (o i), .string (s i), v i]) ts[i]) :
    FormIn w S (.agg #[.int .i64 op, .string name, .slice a ts.length cap]) (.node op name ts)

/-- No cell lies in block 'row'. -/
abbrev FormAt (w : World) (row : Option Nat) (v : Value) (t : Tree) : Prop := FormIn w (fun b => row ≠ some b) v t

theorem FormIn.kept {w w' : World} {S : Nat → Prop} {v : Value} {t : Tree} (h : FormIn w S v t) (hg : ∀ i, S i → i < w.heap.size → w'.heap[i]? = w.heap[i]?) : FormIn w' S v t := by
  induction h with
  | node op name a cap ts b off o s v hop hname hlen hcap ha hc hs ih =>
    refine .node op name a cap ts b off o s v hop hname hlen hcap ha (fun i hi => ?_) ih
    have hS : S b := (ha (by omega)).2
    obtain ⟨c0, c1, c2⟩ := hc i hi
    have hb : w'.heap[b]? = w.heap[b]? := hg b hS (World.block_lt_of_cell? w ⟨b, off + i * 3, none⟩ c0)
    exact ⟨(World.cell?_of_block (a := ⟨b, off + i * 3, none⟩) hb).trans c0, (World.cell?_of_block (a := ⟨b, off + i * 3 + 1, none⟩) hb).trans c1, (World.cell?_of_block (a := ⟨b, off + i * 3 + 2, none⟩) hb).trans c2⟩
theorem FormIn.mono {w : World} {S S' : Nat → Prop} {v : Value} {t : Tree} (h : FormIn w S v t) (hS : ∀ i, i < w.heap.size → S i → S' i) : FormIn w S' v t := by
  induction h with
  | node op name a cap ts b off o s v hop hname hlen hcap ha hc hs ih =>
    exact .node op name a cap ts b off o s v hop hname hlen hcap (fun h => ⟨(ha h).1, hS b (World.block_lt_of_cell? w ⟨b, off + 0 * 3, none⟩ (hc 0 h).1) (ha h).2⟩) hc ih

theorem FormIn.go {w w' : World} {S : Nat → Prop} {v : Value} {t : Tree} (h : FormIn w S v t) (hb : Below w.heap.size w w') : FormIn w' S v t := h.kept fun i _ hi => hb.block i hi

theorem FormAt.kept {w w' : World} {row : Option Nat} {v : Value} {t : Tree} (h : FormAt w row v t) (hg : w.grownBy w' row) : FormAt w' row v t :=
  FormIn.kept h fun i hi hl => hg.block i hl (fun e => hi e.symm)

theorem FormAt.go {w w' : World} {row : Option Nat} {v : Value} {t : Tree} (h : FormAt w row v t) (hb : Below w.heap.size w w') : FormAt w' row v t := FormIn.go h hb

theorem FormIn.free {w : World} {S : Nat → Prop} {v : Value} {t : Tree} (h : FormIn w S v t) : FormAt w none v t := h.mono fun _ _ _ => by simp

/-- No formula lies in a block that is yet to come. -/
theorem FormAt.avoid {w : World} {row : Option Nat} {v : Value} {t : Tree} (h : FormAt w row v t) {n : Nat} (hn : w.heap.size ≤ n) : FormAt w (some n) v t :=
  FormIn.mono h fun i hi _ e => by injection e with e; omega

/-- The form of a formula's value, and its arguments. -/
theorem FormIn.form {w : World} {S : Nat → Prop} {v : Value} {t : Tree} (h : FormIn w S v t) : ∃ (a : Option Addr) (cap b off : Nat), v = .agg #[.int .i64 t.op, .string t.name, .slice a t.args.length cap] ∧ I64 t.op ∧ t.name.size ≤ maxLen ∧ t.args.length ≤ cap ∧ cap ≤ maxLen ∧
    (0 < t.args.length → a = some ⟨b, off, none⟩ ∧ S b) ∧
    ∀ i (h : i < t.args.length), ∃ (a' : Option Addr) (c' : Nat), w.cell? ⟨b, off + i * 3, none⟩ = some (.int .i64 t.args[i].op) ∧ w.cell? ⟨b, off + i * 3 + 1, none⟩ = some (.string t.args[i].name) ∧ w.cell? ⟨b, off + i * 3 + 2, none⟩ = some (.slice a' t.args[i].args.length c') ∧ FormIn w S (.agg #[.int .i64 t.args[i].op, .string t.args[i].name, .slice a' t.args[i].args.length c']) t.args[i] := by
  cases h with
  | node op name a cap ts b off o s v hop hname hlen hcap ha hc hs =>
    refine ⟨a, cap, b, off, rfl, hop, hname, hlen, hcap, ha, fun i hi => ?_⟩
    have hi' : i < ts.length := hi
    have h1 := hs i hi'
    obtain ⟨c0, c1, c2⟩ := hc i hi'
    generalize o i = oi at h1 c0
    generalize s i = si at h1 c1
    generalize v i = vi at h1 c2
    show ∃ (a' : Option Addr) (c' : Nat), w.cell? ⟨b, off + i * 3, none⟩ = some (.int .i64 ts[i].op) ∧ w.cell? ⟨b, off + i * 3 + 1, none⟩ = some (.string ts[i].name) ∧ w.cell? ⟨b, off + i * 3 + 2, none⟩ = some (.slice a' ts[i].args.length c') ∧ FormIn w S (.agg #[.int .i64 ts[i].op, .string ts[i].name, .slice a' ts[i].args.length c']) ts[i]
    generalize ts[i] = t at h1
    cases h1 with
    | node op' name' a' cap' ts' b' off' o' s' v' hop' hname' hlen' hcap' ha' hc' hs' =>
      exact ⟨a', cap', c0, c1, c2, .node _ _ a' cap' ts' b' off' o' s' v' hop' hname' hlen' hcap' ha' hc' hs'⟩

/-- A row of formulas. -/
def FormsIn (w : World) (S : Nat → Prop) (a : Option Addr) (ts : List Tree) : Prop := ∃ b off : Nat, (0 < ts.length → a = some ⟨b, off, none⟩ ∧ S b) ∧
  ∀ i (h : i < ts.length), ∃ (a' : Option Addr) (c' : Nat), w.cell? ⟨b, off + i * 3, none⟩ = some (.int .i64 ts[i].op) ∧ w.cell? ⟨b, off + i * 3 + 1, none⟩ = some (.string ts[i].name) ∧ w.cell? ⟨b, off + i * 3 + 2, none⟩ = some (.slice a' ts[i].args.length c') ∧ FormIn w S (.agg #[.int .i64 ts[i].op, .string ts[i].name, .slice a' ts[i].args.length c']) ts[i]
abbrev FormsAt (w : World) (row : Option Nat) (a : Option Addr) (ts : List Tree) : Prop := FormsIn w (fun b => row ≠ some b) a ts

theorem FormIn.shape {w : World} {S : Nat → Prop} {o : Int} {s : ByteArray} {a : Option Addr} {n cap : Nat} {t : Tree} (h : FormIn w S (.agg #[.int .i64 o, .string s, .slice a n cap]) t) : o = t.op ∧ s = t.name ∧ n = t.args.length := by
  obtain ⟨a', cap', b, off, e, -⟩ := h.form
  simp at e
  exact ⟨e.1, e.2.1, e.2.2.2.1⟩

theorem FormIn.forms {w : World} {S : Nat → Prop} {o : Int} {s : ByteArray} {a : Option Addr} {n cap : Nat} {t : Tree} (h : FormIn w S (.agg #[.int .i64 o, .string s, .slice a n cap]) t) : FormsIn w S a t.args := by
  obtain ⟨a', cap', b, off, e, -, -, -, -, ha, hc⟩ := h.form
  have e1 : a = a' := by
    simp at e
    exact e.2.2.1
  subst e1
  exact ⟨b, off, ha, hc⟩

theorem FormsIn.kept {w w' : World} {S : Nat → Prop} {a : Option Addr} {ts : List Tree} (h : FormsIn w S a ts) (hg : ∀ i, S i → i < w.heap.size → w'.heap[i]? = w.heap[i]?) : FormsIn w' S a ts := by
  obtain ⟨b, off, ha, hc⟩ := h
  refine ⟨b, off, ha, fun i hi => ?_⟩
  obtain ⟨a', c', h0, h1, h2, h3⟩ := hc i hi
  have hb : w'.heap[b]? = w.heap[b]? := hg b (ha (by omega)).2 (World.block_lt_of_cell? w ⟨b, off + i * 3, none⟩ h0)
  exact ⟨a', c', (World.cell?_of_block (a := ⟨b, off + i * 3, none⟩) hb).trans h0, (World.cell?_of_block (a := ⟨b, off + i * 3 + 1, none⟩) hb).trans h1, (World.cell?_of_block (a := ⟨b, off + i * 3 + 2, none⟩) hb).trans h2, h3.kept hg⟩
theorem FormsIn.go {w w' : World} {S : Nat → Prop} {a : Option Addr} {ts : List Tree} (h : FormsIn w S a ts) (hb : Below w.heap.size w w') : FormsIn w' S a ts := h.kept fun i _ hi => hb.block i hi
theorem FormsIn.mono {w : World} {S S' : Nat → Prop} {a : Option Addr} {ts : List Tree} (h : FormsIn w S a ts) (hS : ∀ i, i < w.heap.size → S i → S' i) : FormsIn w S' a ts := by
  obtain ⟨b, off, ha, hc⟩ := h
  refine ⟨b, off, fun h => ⟨(ha h).1, ?_⟩, fun i hi => ?_⟩
  · obtain ⟨a', c', h0, -⟩ := hc 0 h
    exact hS b (World.block_lt_of_cell? w ⟨b, off + 0 * 3, none⟩ h0) (ha h).2
  · obtain ⟨a', c', h0, h1, h2, h3⟩ := hc i hi
    exact ⟨a', c', h0, h1, h2, h3.mono hS⟩

/-- The element number i of a row. -/
theorem FormsIn.at {w : World} {S : Nat → Prop} {a : Option Addr} {ts : List Tree} (h : FormsIn w S a ts) (i : Nat) (hi : i < ts.length) : ∃ (b off : Nat) (a' : Option Addr) (c' : Nat), a = some ⟨b, off, none⟩ ∧ w.cell? ⟨b, off + i * 3, none⟩ = some (.int .i64 ts[i].op) ∧ w.cell? ⟨b, off + i * 3 + 1, none⟩ = some (.string ts[i].name) ∧ w.cell? ⟨b, off + i * 3 + 2, none⟩ = some (.slice a' ts[i].args.length c') ∧ FormIn w S (.agg #[.int .i64 ts[i].op, .string ts[i].name, .slice a' ts[i].args.length c']) ts[i] := by
  obtain ⟨b, off, ha, hc⟩ := h
  obtain ⟨a', c', h0, h1, h2, h3⟩ := hc i hi
  exact ⟨b, off, a', c', (ha (by omega)).1, h0, h1, h2, h3⟩
end Go.Proofs.YtilkpjcbmllgmaaDoor

namespace Go.Proofs.YtilkpjcbmllgmaaDoor
set_option linter.unusedVariables false
set_option linter.unusedSimpArgs false
open Go.RowKit

set_option maxRecDepth 100000 in
set_option maxHeartbeats 400000 in
theorem size_any : ∀ (t : Tree) (v : Value) (w : World), FormAt w none v t → t.nodes ≤ 1000000000 →
    Calls Tryd.prog 12 #[v] w fun e w' => e = .returned (.int .i64 t.nodes) ∧ Below w.heap.size w w' := by
  refine Tree.ind fun op name ts ih v w hv hn => ?_
  obtain ⟨a, cap, b, off, rfl, hop, hname, hlen, hcap, ha, hc⟩ := hv.form
  simp only [Tree.op_node, Tree.name_node, Tree.args_node] at *
  have HN : Hid ((Tree.node op name ts).nodes = 1 + nodesL ts) := by show _ = _; simp [Tree.nodes]
  have hn' : 1 + nodesL ts ≤ 1000000000 := by rw [← HN.out]; exact hn
  have hlt : ts.length ≤ nodesL ts := nodes_len_le ts
  have HA := hidIt ha
  have HC := hidIt hc
  have IH := hidIt ih
  unfold maxLen at hcap
  clear hn ha hc ih hv
  go_enter Tryd.func12, Tryd.ntmps12
  go_wp2_with fail
  go_loopw [3, 9] (fun t i wr => ∃ k : Nat, k ≤ ts.length ∧ i = .int .i64 k ∧ t = .int .i64 (1 + nodesL (ts.take k) : Nat) ∧ Hid (Below w.heap.size w wr)) (fun _ i _ => ts.length - (intOf i).toNat)
  case atStart => exact ⟨0, Nat.zero_le _, rfl, by simp [nodesL], (Below.refl _ _).alloc (Nat.le_refl _) _⟩
  case round =>
    obtain ⟨k, hk, rfl, rfl, hbel⟩ := hrel
    by_cases hlt : k < ts.length
    · obtain ⟨a', cap', c0, c1, c2, hf⟩ := HC.out k hlt
      obtain ⟨rfl, -⟩ := HA.out (by omega)
      have hbw : b < w.heap.size := World.block_lt_of_cell? w ⟨b, off + k * 3, none⟩ c0
      rw [← hbel.out.cell (p := ⟨b, off + k * 3, none⟩) hbw] at c0
      rw [← hbel.out.cell (p := ⟨b, off + k * 3 + 1, none⟩) hbw] at c1
      rw [← hbel.out.cell (p := ⟨b, off + k * 3 + 2, none⟩) hbw] at c2
      have HF := hidIt (hf.go hbel.out)
      have hs := nodesL_take ts k hlt
      have hs2 := nodesL_take_le ts (k + 1)
      have HS := hidIt hs
      have hb1 : nodesL (ts.take k) ≤ 1000000000 := by omega
      have hb2 : nodesL (ts.take k) + (ts[k]).nodes ≤ 1000000000 := by omega
      have hm : ts[k] ∈ ts := List.getElem_mem hlt
      clear hf hs hs2
      generalize ts[k] = t at *
      go_wp2_with fail
      refine (IH.out _ hm _ _ (HF.out.go ((Below.refl _ _).alloc (Nat.le_refl _) _)) (by omega)).mono ?_
      rintro e w' ⟨rfl, hb⟩
      have HB := hidIt (hbel.out.trans ((below_box hb).mono hbel.out.size))
      clear hb
      go_wp2_with fail
      go_roundw
      case rel => exact ⟨k + 1, by omega, by go_num, by rw [HS.out]; go_num, HB.out⟩
      case measure => simp [intOf]; omega
    · go_wp2
      go_ret
      exact ⟨ret_int (by rw [HN.out, List.take_of_length_le (by omega)]), hbel.out⟩

set_option maxRecDepth 100000 in
set_option maxHeartbeats 400000 in
theorem depth_any : ∀ (t : Tree) (v : Value) (w : World), FormAt w none v t → t.nodes ≤ 1000000000 →
    Calls Tryd.prog 14 #[v] w fun e w' => e = .returned (.int .i64 t.depth) ∧ Below w.heap.size w w' := by
  refine Tree.ind fun op name ts ih v w hv hn => ?_
  obtain ⟨a, cap, b, off, rfl, hop, hname, hlen, hcap, ha, hc⟩ := hv.form
  simp only [Tree.op_node, Tree.name_node, Tree.args_node] at *
  have HN : Hid ((Tree.node op name ts).nodes = 1 + nodesL ts) := by show _ = _; simp [Tree.nodes]
  have HD : Hid ((Tree.node op name ts).depth = depthL ts) := by show _ = _; simp [Tree.depth]
  have hn' : 1 + nodesL ts ≤ 1000000000 := by rw [← HN.out]; exact hn
  have hlt : ts.length ≤ nodesL ts := nodes_len_le ts
  have HA := hidIt ha
  have HC := hidIt hc
  have IH := hidIt ih
  unfold maxLen at hcap
  clear hn ha hc ih hv
  go_enter Tryd.func14, Tryd.ntmps14
  go_wp2_with fail
  go_loopw [3, 9] (fun t i wr => ∃ k : Nat, k ≤ ts.length ∧ i = .int .i64 k ∧ t = .int .i64 (depthL (ts.take k) : Nat) ∧ Hid (Below w.heap.size w wr)) (fun _ i _ => ts.length - (intOf i).toNat)
  case atStart => exact ⟨0, Nat.zero_le _, rfl, by simp [depthL], (Below.refl _ _).alloc (Nat.le_refl _) _⟩
  case round =>
    obtain ⟨k, hk, rfl, rfl, hbel⟩ := hrel
    by_cases hlt : k < ts.length
    · obtain ⟨a', cap', c0, c1, c2, hf⟩ := HC.out k hlt
      obtain ⟨rfl, -⟩ := HA.out (by omega)
      have hbw : b < w.heap.size := World.block_lt_of_cell? w ⟨b, off + k * 3, none⟩ c0
      rw [← hbel.out.cell (p := ⟨b, off + k * 3, none⟩) hbw] at c0
      rw [← hbel.out.cell (p := ⟨b, off + k * 3 + 1, none⟩) hbw] at c1
      rw [← hbel.out.cell (p := ⟨b, off + k * 3 + 2, none⟩) hbw] at c2
      have HF := hidIt (hf.go hbel.out)
      have hs := nodesL_take ts k hlt
      have hs2 := nodesL_take_le ts (k + 1)
      have HS := hidIt (depthL_take ts k hlt)
      have hd1 : depthL (ts.take k) ≤ 1000000000 := by
        have h1 := depthL_take_le ts k
        have h2 := depth_lt_nodes (Tree.node op name ts)
        rw [HN.out, HD.out] at h2
        omega
      have hd2 : (ts[k]).depth < (ts[k]).nodes := depth_lt_nodes _
      have hb1 : nodesL (ts.take k) ≤ 1000000000 := by omega
      have hb2 : nodesL (ts.take k) + (ts[k]).nodes ≤ 1000000000 := by omega
      have hm : ts[k] ∈ ts := List.getElem_mem hlt
      clear hf hs hs2
      generalize ts[k] = t at *
      go_wp2_with fail
      refine (IH.out _ hm _ _ (HF.out.go ((Below.refl _ _).alloc (Nat.le_refl _) _)) (by omega)).mono ?_
      rintro e w' ⟨rfl, hb⟩
      have HB := hidIt (hbel.out.trans ((below_box hb).mono hbel.out.size))
      clear hb
      go_wp2_with fail
      go_roundw
      case rel => exact ⟨k + 1, by omega, by go_num, by rw [HS.out]; go_num, HB.out⟩
      case measure => simp [intOf]; omega
    · go_wp2
      go_ret
      exact ⟨ret_int (by rw [HD.out, List.take_of_length_le (by omega)]), hbel.out⟩
end Go.Proofs.YtilkpjcbmllgmaaDoor

namespace Go.Proofs.YtilkpjcbmllgmaaDoor
set_option linter.unusedVariables false
set_option linter.unusedSimpArgs false
open Go.RowKit

/-- Does a node have a kind, and the number of arguments of its kind? -/
def kindB (t : Tree) : Bool :=
  if t.op = 1 ∨ t.op = 2 ∨ t.op = 3 then t.args.length == 0
  else if t.op = 4 then t.args.length == 1
  else if t.op = 5 ∨ t.op = 6 then decide (2 ≤ t.args.length ∧ t.args.length ≤ 6)
  else if t.op = 7 ∨ t.op = 8 then t.args.length == 2
  else false

/-- Does a node have the name that it should have? -/
def nameB (t : Tree) : Bool := if t.op = 3 then vn t.name else t.name.size == 0

set_option maxHeartbeats 400000 in
theorem kindFits_any (t : Tree) (v : Value) (w : World) (h : FormAt w none v t) :
    Calls Tryd.prog 35 #[v] w fun e w' => e = .returned (.bool (kindB t)) ∧ Below w.heap.size w w' := by
  obtain ⟨a, cap, b, off, rfl, hop, hname, hlen, hcap, -, -⟩ := h.form
  have hK : Hid (kindB t = if t.op = 1 ∨ t.op = 2 ∨ t.op = 3 then t.args.length == 0
    else if t.op = 4 then t.args.length == 1
    else if t.op = 5 ∨ t.op = 6 then decide (2 ≤ t.args.length ∧ t.args.length ≤ 6)
    else if t.op = 7 ∨ t.op = 8 then t.args.length == 2
    else false) := rfl
  have hb : Hid (Below w.heap.size w (w.alloc (.cells #[.int .i64 t.op, .string t.name, .slice a t.args.length cap] 24))) := (Below.refl _ _).alloc (Nat.le_refl _) _
  generalize kindB t = kb at *
  generalize t.args.length = n at *
  generalize t.op = op at *
  generalize t.name = nm at *
  unfold maxLen at hcap
  clear h
  go_enter Tryd.func35, Tryd.ntmps35
  go_wp2
  all_goals (go_ret; refine ⟨ret_bool ?_, hb.out⟩; rw [hK.out]; grind)

theorem isEmpty_size (s : ByteArray) : s.toList.isEmpty = (s.size == 0) := by
  rw [Lib.toList_data]
  obtain ⟨⟨l⟩⟩ := s
  cases l <;> rfl

set_option maxHeartbeats 400000 in
theorem nameFits_any (t : Tree) (v : Value) (w : World) (h : FormAt w none v t) :
    Calls Tryd.prog 36 #[v] w fun e w' => e = .returned (.bool (nameB t)) ∧ Below w.heap.size w w' := by
  obtain ⟨a, cap, b, off, rfl, hop, hname, hlen, hcap, -, -⟩ := h.form
  have hb : Hid (Below w.heap.size w (w.alloc (.cells #[.int .i64 t.op, .string t.name, .slice a t.args.length cap] 24))) := (Below.refl _ _).alloc (Nat.le_refl _) _
  by_cases ho : t.op = 3
  · have hK : Hid (nameB t = vn t.name) := by show _ = _; simp [nameB, ho]
    have he : (t.op == 3) = true := by simp [ho]
    generalize nameB t = kb at *
    generalize t.args.length = n at *
    generalize t.op = op at *
    generalize t.name = nm at *
    clear h ho
    go_enter Tryd.func36, Tryd.ntmps36
    go_wp2_with (go_at_call 56; refine (validName_any _ _ hname).mono ?_; rintro e w' ⟨rfl, rfl⟩)
    go_ret
    exact ⟨ret_bool hK.out.symm, hb.out⟩
  · have hK : Hid (nameB t = (t.name.size == 0)) := by show _ = _; simp [nameB, ho]
    have he : (t.op == 3) = false := by simp [ho]
    generalize nameB t = kb at *
    generalize t.args.length = n at *
    generalize t.op = op at *
    generalize t.name = nm at *
    clear h ho
    go_enter Tryd.func36, Tryd.ntmps36
    go_wp2_with fail
    go_ret
    exact ⟨ret_bool (by rw [hK.out]; exact isEmpty_size nm), hb.out⟩

/-- A function of the program that has a body. -/
def Enters (k : Nat) : Prop := ∀ (args : Array Value) (w : World), (callFunc k args).run Tryd.prog w = .ok (.enter k args) w

theorem enters_of {k : Nat} {fn : Func} {c : Code} (hf : Tryd.prog.funcs[k]? = some fn) (hname : (fn.name == "runtime.NumGoroutine") = false) (hb : fn.body = some c) : Enters k := fun args w => by
  have h1 : fn.name ≠ "runtime.NumGoroutine" := by simpa using hname
  simp [callFunc, go_sem, hf, h1, hb]

/-- The function answers p of every formula. -/
def Tests (k : Nat) (p : Tree → Bool) : Prop := ∀ (t : Tree) (v : Value) (w : World), FormAt w none v t → Calls Tryd.prog k #[v] w fun e w' => e = .returned (.bool (p t)) ∧ Below w.heap.size w w'

set_option maxRecDepth 100000 in
set_option maxHeartbeats 400000 in
theorem every_any (f : Nat) (p : Tree → Bool) (hf : Enters f) (hp : Tests f p) : ∀ (t : Tree) (v : Value) (w : World), FormAt w none v t →
    Calls Tryd.prog 34 #[v, .func (.func f) #[] #[]] w fun e w' => e = .returned (.bool (t.all p)) ∧ Below w.heap.size w w' := by
  refine Tree.ind fun op name ts ih v w hv => ?_
  obtain ⟨a, cap, b, off, rfl, hop, hname, hlen, hcap, ha, hc⟩ := hv.form
  simp only [Tree.op_node, Tree.name_node, Tree.args_node] at *
  have HA := hidIt ha
  have HC := hidIt hc
  have IH := hidIt ih
  have HV := hidIt hv
  have HPP := hidIt hp
  unfold maxLen at hcap
  have hcf : ∀ (args : Array Value) (w : World), (callFunc f args).run Tryd.prog w = .ok (.enter f args) w := hf
  clear ha hc ih hv hp
  cases hpt : p (.node op name ts)
  · have HR : Hid ((Tree.node op name ts).all p = false) := by show _ = _; simp [Tree.all, hpt]
    have HT := hidIt hpt
    clear hpt
    go_enter Tryd.func34, Tryd.ntmps34
    go_wp2_with fail
    refine (HPP.out _ _ _ (HV.out.go ((Below.refl _ _).alloc (Nat.le_refl _) _))).mono ?_
    rintro e w' ⟨rfl, hb⟩
    rw [HT.out]
    have HB := hidIt (below_box hb)
    clear hb
    go_wp2_with fail
    go_ret
    exact ⟨ret_bool HR.out.symm, HB.out⟩
  · have HR : Hid ((Tree.node op name ts).all p = allL p ts) := by show _ = _; simp [Tree.all, hpt]
    have HT := hidIt hpt
    clear hpt
    go_enter Tryd.func34, Tryd.ntmps34
    go_wp2_with fail
    refine (HPP.out _ _ _ (HV.out.go ((Below.refl _ _).alloc (Nat.le_refl _) _))).mono ?_
    rintro e w' ⟨rfl, hb⟩
    rw [HT.out]
    have HB := hidIt (below_box hb)
    obtain ⟨p0, p1, p2⟩ := cell_of3 (laid_box hb)
    have hsz : w.heap.size < w'.heap.size := lt_of_block (laid_box hb)
    clear hb
    go_wp2_with fail
    go_loopw [14] (fun i wr => ∃ k : Nat, k ≤ ts.length ∧ i = .int .i64 k ∧ Hid (allL p (ts.take k) = true) ∧ Hid (Below w.heap.size w wr)) (fun i _ => ts.length - (intOf i).toNat)
    case atStart => exact ⟨0, Nat.zero_le _, rfl, rfl, HB.out⟩
    case round =>
      clear HB
      obtain ⟨k, hk, rfl, hall, hbel⟩ := hrel
      by_cases hlt : k < ts.length
      · obtain ⟨a', cap', c0, c1, c2, hf⟩ := HC.out k hlt
        obtain ⟨rfl, -⟩ := HA.out (by omega)
        have hbw : b < w.heap.size := World.block_lt_of_cell? w ⟨b, off + k * 3, none⟩ c0
        rw [← hbel.out.cell (p := ⟨b, off + k * 3, none⟩) hbw] at c0
        rw [← hbel.out.cell (p := ⟨b, off + k * 3 + 1, none⟩) hbw] at c1
        rw [← hbel.out.cell (p := ⟨b, off + k * 3 + 2, none⟩) hbw] at c2
        have HF := hidIt (hf.go hbel.out)
        have HS := hidIt (allL_take p ts k hlt)
        have hm : ts[k] ∈ ts := List.getElem_mem hlt
        clear hf
        generalize ts[k] = t at *
        go_wp2_with fail
        refine (IH.out t hm _ _ (HF.out.go ((Below.refl _ _).alloc (Nat.le_refl _) _))).mono ?_
        rintro e w' ⟨rfl, hb⟩
        have HB := hidIt (hbel.out.trans ((below_box hb).mono hbel.out.size))
        clear hb
        cases hpt : t.all p
        · have HE : Hid (allL p ts = false) := allL_take_false p ts (k + 1) (by rw [HS.out, hpt, Bool.and_false])
          clear hpt
          go_wp2_with fail
          go_ret
          exact ⟨ret_bool (by rw [HR.out, HE.out]), HB.out⟩
        · have HE : Hid (allL p (ts.take (k + 1)) = true) := by show _ = _; rw [HS.out, hall.out, hpt]; rfl
          clear hpt
          go_wp2_with fail
          go_roundw
          case rel => exact ⟨k + 1, by omega, by go_num, HE.out, HB.out⟩
          case measure => simp [intOf]; omega
      · go_wp2
        go_ret
        exact ⟨ret_bool (by rw [HR.out, ← hall.out, List.take_of_length_le (by omega)]), hbel.out⟩
end Go.Proofs.YtilkpjcbmllgmaaDoor

namespace Go.Proofs.YtilkpjcbmllgmaaDoor
set_option linter.unusedVariables false
set_option linter.unusedSimpArgs false
open Go.RowKit

theorem ret_str' {a b : ByteArray} (h : a = b) : Ending.returned (.string a) = .returned (.string b) := by rw [h]

/-- Block b is a row of these strings. -/
def StrRow (w : World) (b : Nat) (l : List ByteArray) : Prop := w.heap[b]? = some (.cells (l.map Value.string).toArray 9 (0, 0))

theorem setCell_heap_self {w : World} {b k : Nat} {c : Array Value} {t : TypeId} (h : w.heap[b]? = some (.cells c t (0, 0))) (x : Value) : (w.setCell ⟨b, k, none⟩ x).heap[b]? = some (.cells (c.setIfInBounds k x) t (0, 0)) := by
  have hlt := lt_of_block h
  have h' : w.heap[b] = .cells c t (0, 0) := by simpa [Array.getElem?_eq_getElem hlt] using h
  show (w.heap.modify b _)[b]? = _
  rw [Array.getElem?_eq_getElem (by simpa using hlt), Array.getElem_modify_self, h']
  rfl

section
variable {w w' : World} {b : Nat} {l : List ByteArray}
theorem StrRow.lt (h : StrRow w b l) : b < w.heap.size := lt_of_block h
theorem StrRow.cell (h : StrRow w b l) (k : Nat) (hk : k < l.length) : w.cell? ⟨b, k, none⟩ = some (.string l[k]) := by
  unfold StrRow at h
  simp [World.cell?, h, hk]
theorem StrRow.free (h : StrRow w b l) (k : Nat) : w.frozen? ⟨b, k, none⟩ = false := free_any h k
theorem StrRow.set (h : StrRow w b l) (k : Nat) (s : ByteArray) : StrRow (w.setCell ⟨b, k, none⟩ (.string s)) b (l.set k s) := by
  unfold StrRow
  rw [setCell_heap_self h]
  simp
theorem StrRow.kept (h : StrRow w b l) (hb : Below w.heap.size w w') : StrRow w' b l := blk_kept h hb
theorem StrRow.alloc (h : StrRow w b l) (o : Obj) : StrRow (w.alloc o) b l := h.kept ((Below.refl _ _).alloc (Nat.le_refl _) o)
theorem StrRow.made (w : World) (n : Nat) : StrRow (w.alloc (.cells (madeCells #[.string ⟨#[]⟩] n) 9)) w.heap.size (List.replicate n ⟨#[]⟩) := by
  unfold StrRow
  rw [heap_alloc_new]
  have e : madeCells #[.string ⟨#[]⟩] n = ((List.replicate n (⟨#[]⟩ : ByteArray)).map Value.string).toArray := by
    apply Array.ext
    · simp [madeCells]
    · intro i h1 h2
      simp [madeCells, Nat.mod_one]
  rw [e]
end

theorem infoS' : (Tryd.prog.info? 9).map (fun i => (i.zero, i.size, i.bytes)) = some (some (.string ⟨#[]⟩), 1, 16) := by kernel_rfl

theorem make_strs' (n : Nat) (hn : n ≤ 1000000000) (w : World) : (Instr.makeSlice 42 (.int .i64 (n : Int)) (.int .i64 (n : Int))).run Tryd.prog w = .ok (.slice (some ⟨w.heap.size, 0, none⟩) n n) (w.alloc (.cells (madeCells #[.string ⟨#[]⟩] n) 9)) := by
  obtain ⟨i0, hi, hz0, hz1, hz2⟩ := info_parts infoS'
  have hr := run_make (P := Tryd.prog) w 42 9 i0 _ Tryd.underlying42 hi hz0 .i64 .i64 (n : Int) (n : Int) (by omega) (by omega) (by rw [hz2]; omega) (by omega)
  rw [hz1] at hr
  simp only [Int.toNat_natCast, Nat.mul_one] at hr
  exact hr
end Go.Proofs.YtilkpjcbmllgmaaDoor

namespace Go.Proofs
open Go.Shelf
def Tryd.lays169_ren : Go.Shelf.Ren := ⟨fun | 169 => 85 | n => n, fun | 70 => 95 | 9 => 9 | 0 => 0 | 72 => 97 | 37 => 38 | 127 => 117 | 3 => 3 | 5 => 5 | n => n, fun | n => n⟩
theorem Tryd.lays169 : Go.Proofs.Lays.n169 Tryd.prog Tryd.lays169_ren := {
  mixed := by kernel_rfl
  f169 := Tryd.func85.trans (congrArg some (by kernel_rfl))
  t0 := Tryd.underlying0
  a0 := Tryd.isAgg0
  z0 := Tryd.sizeOf0
  v0 := Tryd.zeroValue0
  t3 := Tryd.underlying3
  a3 := Tryd.isAgg3
  z3 := Tryd.sizeOf3
  v3 := Tryd.zeroValue3
  t9 := Tryd.underlying9
  a9 := Tryd.isAgg9
  z9 := Tryd.sizeOf9
  v9 := Tryd.zeroValue9
  t37 := Tryd.underlying38
  a37 := Tryd.isAgg38
  z37 := Tryd.sizeOf38
  v37 := Tryd.zeroValue38
  t70 := Tryd.underlying95
  a70 := Tryd.isAgg95
  z70 := Tryd.sizeOf95
  v70 := Tryd.zeroValue95
  t72 := Tryd.underlying97
  a72 := Tryd.isAgg97
  z72 := Tryd.sizeOf97
  v72 := Tryd.zeroValue97
  t127 := Tryd.underlying117
  a127 := Tryd.isAgg117
  z127 := Tryd.sizeOf117
  v127 := Tryd.zeroValue117 }
theorem Tryd.Builder_Extra_169 : Builder.Extra Tryd.prog Tryd.lays169_ren := {
  sizeBuilder := by kernel_rfl
  liesBuilder := by kernel_rfl
  t5 := Tryd.underlying5
  a5 := Tryd.isAgg5
  z5 := Tryd.sizeOf5
  v5 := Tryd.zeroValue5
  infoByte := by kernel_rfl
  cellsByte := by kernel_rfl
  sizeByte := by kernel_rfl
  neB5 := by decide }
open Go.RowKit in
/-- (*strings.Builder).String: "String returns the accumulated string.": OF A BUILDER THAT HOLDS AT LEAST ONE BYTE. ✋ THE MODEL FREEZES THOSE BYTES IN THE BUFFER (unsafe.String): a later write INTO them ends the model's run without an answer; a later append BEHIND them goes on. The statement's order of evaluation is drawn: one draw. (LAID: no walk: one application.) -/
theorem Tryd.Builder_String (B b : Nat) (l : List UInt8) (w : World) (h : Lib.IsBuilder 97 5 B b (Lib.byteCells l) w) (h0 : l ≠ []) :
    Calls Tryd.prog 85 #[.pointer (some ⟨b, 0, none⟩)] w fun e w' => e = .returned (.string ⟨l.toArray⟩) ∧ Below B w w' := Any.Builder_String Tryd.lays169 Tryd.Builder_Extra_169 B b l w h h0
open Go.RowKit in
/-- (*strings.Builder).String OF A BUILDER THAT HOLDS NO BYTE: the empty string. (Its buffer is nil, or a row of which it has taken nothing yet; where that row has NO capacity the model lays one new block for unsafe.SliceData's 'some address'.) One draw. (LAID: no walk: one application.) -/
theorem Tryd.Builder_String_empty (B b : Nat) (w : World) (h : Lib.IsBuilder 97 5 B b [] w) (hBw : B ≤ w.heap.size) :
    Calls Tryd.prog 85 #[.pointer (some ⟨b, 0, none⟩)] w fun e w' => e = .returned (.string ⟨#[]⟩) ∧ Below B w w' := Any.Builder_String_empty Tryd.lays169 Tryd.Builder_Extra_169 B b w h hBw
open Go.RowKit in
/-- (*strings.Builder).String: "String returns the accumulated string.": WHATEVER THE BUILDER HOLDS. (LAID: no walk: one application.) -/
theorem Tryd.Builder_String_any (B b : Nat) (l : List UInt8) (w : World) (h : Lib.IsBuilder 97 5 B b (Lib.byteCells l) w) (hBw : B ≤ w.heap.size) :
    Calls Tryd.prog 85 #[.pointer (some ⟨b, 0, none⟩)] w fun e w' => e = .returned (.string ⟨l.toArray⟩) ∧ Below B w w' := Any.Builder_String_any Tryd.lays169 Tryd.Builder_Extra_169 B b l w h hBw
def Tryd.lays241_ren : Go.Shelf.Ren := ⟨fun | 241 => 102 | 277 => 112 | n => n, fun | 70 => 95 | 3 => 3 | 0 => 0 | 72 => 97 | 37 => 38 | 5 => 5 | n => n, fun | n => n⟩
theorem Tryd.lays241 : Go.Proofs.Lays.n241 Tryd.prog Tryd.lays241_ren := {
  mixed := by kernel_rfl
  f241 := Tryd.func102.trans (congrArg some (by kernel_rfl))
  f277 := Tryd.func112.trans (congrArg some (by kernel_rfl))
  t0 := Tryd.underlying0
  a0 := Tryd.isAgg0
  z0 := Tryd.sizeOf0
  v0 := Tryd.zeroValue0
  t3 := Tryd.underlying3
  a3 := Tryd.isAgg3
  z3 := Tryd.sizeOf3
  v3 := Tryd.zeroValue3
  t37 := Tryd.underlying38
  a37 := Tryd.isAgg38
  z37 := Tryd.sizeOf38
  v37 := Tryd.zeroValue38
  t70 := Tryd.underlying95
  a70 := Tryd.isAgg95
  z70 := Tryd.sizeOf95
  v70 := Tryd.zeroValue95
  t72 := Tryd.underlying97
  a72 := Tryd.isAgg97
  z72 := Tryd.sizeOf97
  v72 := Tryd.zeroValue97 }
theorem Tryd.Builder_Extra_241 : Builder.Extra Tryd.prog Tryd.lays241_ren := {
  sizeBuilder := by kernel_rfl
  liesBuilder := by kernel_rfl
  t5 := Tryd.underlying5
  a5 := Tryd.isAgg5
  z5 := Tryd.sizeOf5
  v5 := Tryd.zeroValue5
  infoByte := by kernel_rfl
  cellsByte := by kernel_rfl
  sizeByte := by kernel_rfl
  neB5 := by decide }
open Go.RowKit in
/-- (*strings.Builder).grow (no doc but "grow copies the buffer to a new, larger buffer so that there are at least n bytes of capacity beyond len(b.buf)."): AT A BUILDER WITHOUT A BUFFER: a new row of whatever bytes for its buffer, none of them its own yet. Three draws. (LAID: no walk: one application.) -/
theorem Tryd.Builder_grow_fresh (B b n : Nat) (w : World) (hB : B ≤ b) (hbk : w.heap[b]? = some (.cells #[.pointer (some ⟨b, 0, none⟩), .slice none 0 0] 97 (0, 0))) (hBw : B ≤ w.heap.size) (hn : n ≤ 281474976710656) :
    Calls Tryd.prog 102 #[.pointer (some ⟨b, 0, none⟩), .int .i64 n] w fun e w' => e = .returned (.tuple #[]) ∧ (Lib.BuilderAt 97 5 B b (.pointer (some ⟨b, 0, none⟩)) [] w' ∧ Below B w w') := Any.Builder_grow_fresh Tryd.lays241 Tryd.Builder_Extra_241 B b n w hB hbk hBw hn
def Tryd.lays165_ren : Go.Shelf.Ren := ⟨fun | 165 => 83 | 240 => 101 | 241 => 102 | 276 => 111 | 277 => 112 | n => n, fun | 70 => 95 | 3 => 3 | 0 => 0 | 4 => 4 | 9 => 9 | 20 => 20 | 72 => 97 | 37 => 38 | 164 => 124 | 5 => 5 | n => n, fun | n => n⟩
theorem Tryd.lays165 : Go.Proofs.Lays.n165 Tryd.prog Tryd.lays165_ren := {
  mixed := by kernel_rfl
  f165 := Tryd.func83.trans (congrArg some (by kernel_rfl))
  f240 := Tryd.func101.trans (congrArg some (by kernel_rfl))
  f241 := Tryd.func102.trans (congrArg some (by kernel_rfl))
  f276 := Tryd.func111.trans (congrArg some (by kernel_rfl))
  f277 := Tryd.func112.trans (congrArg some (by kernel_rfl))
  t0 := Tryd.underlying0
  a0 := Tryd.isAgg0
  z0 := Tryd.sizeOf0
  v0 := Tryd.zeroValue0
  t3 := Tryd.underlying3
  a3 := Tryd.isAgg3
  z3 := Tryd.sizeOf3
  v3 := Tryd.zeroValue3
  t4 := Tryd.underlying4
  a4 := Tryd.isAgg4
  z4 := Tryd.sizeOf4
  v4 := Tryd.zeroValue4
  t9 := Tryd.underlying9
  a9 := Tryd.isAgg9
  z9 := Tryd.sizeOf9
  v9 := Tryd.zeroValue9
  t20 := Tryd.underlying20
  a20 := Tryd.isAgg20
  z20 := Tryd.sizeOf20
  v20 := Tryd.zeroValue20
  t37 := Tryd.underlying38
  a37 := Tryd.isAgg38
  z37 := Tryd.sizeOf38
  v37 := Tryd.zeroValue38
  t70 := Tryd.underlying95
  a70 := Tryd.isAgg95
  z70 := Tryd.sizeOf95
  v70 := Tryd.zeroValue95
  t72 := Tryd.underlying97
  a72 := Tryd.isAgg97
  z72 := Tryd.sizeOf97
  v72 := Tryd.zeroValue97
  t164 := Tryd.underlying124
  a164 := Tryd.isAgg124
  z164 := Tryd.sizeOf124
  v164 := Tryd.zeroValue124 }
theorem Tryd.Builder_Extra_165 : Builder.Extra Tryd.prog Tryd.lays165_ren := {
  sizeBuilder := by kernel_rfl
  liesBuilder := by kernel_rfl
  t5 := Tryd.underlying5
  a5 := Tryd.isAgg5
  z5 := Tryd.sizeOf5
  v5 := Tryd.zeroValue5
  infoByte := by kernel_rfl
  cellsByte := by kernel_rfl
  sizeByte := by kernel_rfl
  neB5 := by decide }
open Go.RowKit in
/-- (*strings.Builder).Grow AT A BUILDER THAT HAS NOT BEEN WRITTEN ('var b strings.Builder; b.Grow(n)'): "Grow grows b's capacity, if necessary, to guarantee space for another n bytes.": it holds no byte behind it as before it. (LAID: no walk: one application.) -/
theorem Tryd.Builder_Grow_fresh (B b n : Nat) (w : World) (hB : B ≤ b) (hbk : w.heap[b]? = some (.cells #[.pointer none, .slice none 0 0] 97 (0, 0))) (hBw : B ≤ w.heap.size) (hn : n ≤ 281474976710656) :
    Calls Tryd.prog 83 #[.pointer (some ⟨b, 0, none⟩), .int .i64 n] w fun e w' => e = .returned (.tuple #[]) ∧ (Lib.BuilderAt 97 5 B b (.pointer (some ⟨b, 0, none⟩)) [] w' ∧ Below B w w') := Any.Builder_Grow_fresh Tryd.lays165 Tryd.Builder_Extra_165 B b n w hB hbk hBw hn
def Tryd.lays156_ren : Go.Shelf.Ren := ⟨fun | 156 => 72 | 165 => 83 | 166 => 84 | 169 => 85 | 240 => 101 | 241 => 102 | 276 => 111 | 277 => 112 | n => n, fun | 31 => 42 | 9 => 9 | 3 => 3 | 4 => 4 | 0 => 0 | 20 => 20 | 72 => 97 | 76 => 101 | 70 => 95 | 37 => 38 | 75 => 100 | 127 => 117 | 164 => 124 | 5 => 5 | 80 => 103 | n => n, fun | n => n⟩
theorem Tryd.lays156 : Go.Proofs.Lays.n156 Tryd.prog Tryd.lays156_ren := {
  mixed := by kernel_rfl
  f156 := Tryd.func72.trans (congrArg some (by kernel_rfl))
  f165 := Tryd.func83.trans (congrArg some (by kernel_rfl))
  f166 := Tryd.func84.trans (congrArg some (by kernel_rfl))
  f169 := Tryd.func85.trans (congrArg some (by kernel_rfl))
  f240 := Tryd.func101.trans (congrArg some (by kernel_rfl))
  f241 := Tryd.func102.trans (congrArg some (by kernel_rfl))
  f276 := Tryd.func111.trans (congrArg some (by kernel_rfl))
  f277 := Tryd.func112.trans (congrArg some (by kernel_rfl))
  t0 := Tryd.underlying0
  a0 := Tryd.isAgg0
  z0 := Tryd.sizeOf0
  v0 := Tryd.zeroValue0
  t3 := Tryd.underlying3
  a3 := Tryd.isAgg3
  z3 := Tryd.sizeOf3
  v3 := Tryd.zeroValue3
  t4 := Tryd.underlying4
  a4 := Tryd.isAgg4
  z4 := Tryd.sizeOf4
  v4 := Tryd.zeroValue4
  t9 := Tryd.underlying9
  a9 := Tryd.isAgg9
  z9 := Tryd.sizeOf9
  v9 := Tryd.zeroValue9
  t20 := Tryd.underlying20
  a20 := Tryd.isAgg20
  z20 := Tryd.sizeOf20
  v20 := Tryd.zeroValue20
  t31 := Tryd.underlying42
  a31 := Tryd.isAgg42
  z31 := Tryd.sizeOf42
  v31 := Tryd.zeroValue42
  t37 := Tryd.underlying38
  a37 := Tryd.isAgg38
  z37 := Tryd.sizeOf38
  v37 := Tryd.zeroValue38
  t70 := Tryd.underlying95
  a70 := Tryd.isAgg95
  z70 := Tryd.sizeOf95
  v70 := Tryd.zeroValue95
  t72 := Tryd.underlying97
  a72 := Tryd.isAgg97
  z72 := Tryd.sizeOf97
  v72 := Tryd.zeroValue97
  t75 := Tryd.underlying100
  a75 := Tryd.isAgg100
  z75 := Tryd.sizeOf100
  v75 := Tryd.zeroValue100
  t76 := Tryd.underlying101
  a76 := Tryd.isAgg101
  z76 := Tryd.sizeOf101
  v76 := Tryd.zeroValue101
  t127 := Tryd.underlying117
  a127 := Tryd.isAgg117
  z127 := Tryd.sizeOf117
  v127 := Tryd.zeroValue117
  t164 := Tryd.underlying124
  a164 := Tryd.isAgg124
  z164 := Tryd.sizeOf124
  v164 := Tryd.zeroValue124 }
theorem Tryd.Builder_Extra_156 : Builder.Extra Tryd.prog Tryd.lays156_ren := {
  sizeBuilder := by kernel_rfl
  liesBuilder := by kernel_rfl
  t5 := Tryd.underlying5
  a5 := Tryd.isAgg5
  z5 := Tryd.sizeOf5
  v5 := Tryd.zeroValue5
  infoByte := by kernel_rfl
  cellsByte := by kernel_rfl
  sizeByte := by kernel_rfl
  neB5 := by decide }
open Go.RowKit in
/-- No element: the empty string; the world is as it was. (Whatever the slice's address and capacity: a nil slice too.) (LAID: no walk: one application.) -/
theorem Tryd.strings_Join_none (a : Option Addr) (c : Nat) (sep : ByteArray) (w : World) :
    Calls Tryd.prog 72 #[.slice a 0 c, .string sep] w fun e w' => e = .returned (.string ⟨#[]⟩) ∧ w' = w := Any.strings_Join_none Tryd.lays156 Tryd.Builder_Extra_156 a c sep w
open Go.RowKit in
/-- strings.Join: "Join concatenates the elements of its first argument to create a single string. The separator string sep is placed between elements in the resulting string.": HOWEVER MANY ELEMENTS. Below the heap's end the world is as it was. (LAID: no walk: one application.) -/
theorem Tryd.strings_Join (bk o c : Nat) (xs : List ByteArray) (sep : ByteArray) (w : World) (hcells : ∀ (j : Nat) x, xs[j]? = some x → w.cell? ⟨bk, o + j, none⟩ = some (.string x)) (hbk : bk < w.heap.size) (hN : xs.length ≤ 140737488355328) (hcap : xs.length ≤ c) (hlen : (Lib.join (xs.map (·.data.toList)) sep.data.toList).length ≤ 140737488355328) :
    Calls Tryd.prog 72 #[.slice (some ⟨bk, o, none⟩) xs.length c, .string sep] w fun e w' => e = .returned (.string ⟨(Lib.join (xs.map (·.data.toList)) sep.data.toList).toArray⟩) ∧ Below w.heap.size w w' := Any.strings_Join Tryd.lays156 Tryd.Builder_Extra_156 bk o c xs sep w hcells hbk hN hcap hlen
def Tryd.lays128_ren : Go.Shelf.Ren := ⟨fun | 128 => 99 | n => n, fun | 51 => 114 | 3 => 3 | 4 => 4 | 46 => 93 | 5 => 5 | 9 => 9 | n => n, fun | n => n⟩
theorem Tryd.lays128 : Go.Proofs.Lays.n128 Tryd.prog Tryd.lays128_ren := {
  mixed := by kernel_rfl
  f128 := Tryd.func99.trans (congrArg some (by kernel_rfl))
  t3 := Tryd.underlying3
  a3 := Tryd.isAgg3
  z3 := Tryd.sizeOf3
  v3 := Tryd.zeroValue3
  t4 := Tryd.underlying4
  a4 := Tryd.isAgg4
  z4 := Tryd.sizeOf4
  v4 := Tryd.zeroValue4
  t5 := Tryd.underlying5
  a5 := Tryd.isAgg5
  z5 := Tryd.sizeOf5
  v5 := Tryd.zeroValue5
  t9 := Tryd.underlying9
  a9 := Tryd.isAgg9
  z9 := Tryd.sizeOf9
  v9 := Tryd.zeroValue9
  t46 := Tryd.underlying93
  a46 := Tryd.isAgg93
  z46 := Tryd.sizeOf93
  v46 := Tryd.zeroValue93
  t51 := Tryd.underlying114
  a51 := Tryd.isAgg114
  z51 := Tryd.sizeOf114
  v51 := Tryd.zeroValue114 }
/-- bits.Len32: "Len32 returns the minimum number of bits required to represent x; the result is 0 for x == 0.": IT RETURNS 'Lib.bitLen x'; the world is as it was. ('h0', 'h1': x is a uint32.) (LAID: no walk: one application.) -/
theorem Tryd.bits_Len32 (x : Int) (w : World) (h0 : 0 ≤ x) (h1 : x ≤ 4294967295) :
    Calls Tryd.prog 99 #[.int .u32 x] w fun e w' => e = .returned (.int .i64 (Lib.bitLen x.toNat)) ∧ w' = w := Any.bits_Len32 Tryd.lays128 x w h0 h1
def Tryd.lays125_ren : Go.Shelf.Ren := ⟨fun | 125 => 81 | 128 => 99 | 129 => 100 | n => n, fun | 46 => 93 | 3 => 3 | 51 => 114 | 53 => 116 | 4 => 4 | 5 => 5 | 9 => 9 | n => n, fun | n => n⟩
theorem Tryd.lays125 : Go.Proofs.Lays.n125 Tryd.prog Tryd.lays125_ren := {
  mixed := by kernel_rfl
  f125 := Tryd.func81.trans (congrArg some (by kernel_rfl))
  f128 := Tryd.func99.trans (congrArg some (by kernel_rfl))
  f129 := Tryd.func100.trans (congrArg some (by kernel_rfl))
  t3 := Tryd.underlying3
  a3 := Tryd.isAgg3
  z3 := Tryd.sizeOf3
  v3 := Tryd.zeroValue3
  t4 := Tryd.underlying4
  a4 := Tryd.isAgg4
  z4 := Tryd.sizeOf4
  v4 := Tryd.zeroValue4
  t5 := Tryd.underlying5
  a5 := Tryd.isAgg5
  z5 := Tryd.sizeOf5
  v5 := Tryd.zeroValue5
  t9 := Tryd.underlying9
  a9 := Tryd.isAgg9
  z9 := Tryd.sizeOf9
  v9 := Tryd.zeroValue9
  t46 := Tryd.underlying93
  a46 := Tryd.isAgg93
  z46 := Tryd.sizeOf93
  v46 := Tryd.zeroValue93
  t51 := Tryd.underlying114
  a51 := Tryd.isAgg114
  z51 := Tryd.sizeOf114
  v51 := Tryd.zeroValue114
  t53 := Tryd.underlying116
  a53 := Tryd.isAgg116
  z53 := Tryd.sizeOf116
  v53 := Tryd.zeroValue116 }
/-- bits.Len: "Len returns the minimum number of bits required to represent x; the result is 0 for x == 0.": IT RETURNS 'Lib.bitLen x'; the world is as it was. (A uint has 64 bits in the model.) ITS CALLEE bits.Len64 IS MET BY ITS OWN CONTRACT OFF THE SHELF (lay that first). (LAID: no walk: one application.) -/
theorem Tryd.bits_Len (x : Int) (w : World) (h0 : 0 ≤ x) (h1 : x ≤ 18446744073709551615) :
    Calls Tryd.prog 81 #[.int .u64 x] w fun e w' => e = .returned (.int .i64 (Lib.bitLen x.toNat)) ∧ w' = w := Any.bits_Len Tryd.lays125 x w h0 h1
open Go.RowKit in
/-- (*strings.Builder).String: "String returns the accumulated string.": OF A BUILDER THAT HOLDS AT LEAST ONE BYTE. ✋ THE MODEL FREEZES THOSE BYTES IN THE BUFFER (unsafe.String): a later write INTO them ends the model's run without an answer; a later append BEHIND them goes on. The statement's order of evaluation is drawn: one draw. THE FORM '_f': IT SAYS BESIDES THAT THE BUILDER IS A BUILDER STILL ('Lib.IsBuilderF', the same bytes): SO IT CAN BE WRITTEN ON: 'b.WriteString(b.String()[:k])'. (LAID: no walk: one application.) -/
theorem Tryd.Builder_String_f (B b : Nat) (l : List UInt8) (w : World) (h : Lib.IsBuilderF 97 5 B b (Lib.byteCells l) w) (h0 : l ≠ []) :
    Calls Tryd.prog 85 #[.pointer (some ⟨b, 0, none⟩)] w fun e w' => e = .returned (.string ⟨l.toArray⟩) ∧ (Lib.IsBuilderF 97 5 B b (Lib.byteCells l) w' ∧ Below B w w') := Any.Builder_String_f Tryd.lays169 Tryd.Builder_Extra_169 B b l w h h0
open Go.RowKit in
/-- (*strings.Builder).String OF A BUILDER THAT HOLDS NO BYTE: the empty string; THE FORM '_f': a builder still. (LAID: no walk: one application.) -/
theorem Tryd.Builder_String_empty_f (B b : Nat) (w : World) (h : Lib.IsBuilderF 97 5 B b [] w) (hBw : B ≤ w.heap.size) :
    Calls Tryd.prog 85 #[.pointer (some ⟨b, 0, none⟩)] w fun e w' => e = .returned (.string ⟨#[]⟩) ∧ (Lib.IsBuilderF 97 5 B b [] w' ∧ Below B w w') := Any.Builder_String_empty_f Tryd.lays169 Tryd.Builder_Extra_169 B b w h hBw
open Go.RowKit in
/-- (*strings.Builder).String: "String returns the accumulated string.": WHATEVER THE BUILDER HOLDS; THE FORM '_f': OF A BUILDER THAT MAY HAVE BEEN READ BEFORE; AND IT IS A BUILDER STILL, holding the same bytes: it can be written on. (LAID: no walk: one application.) -/
theorem Tryd.Builder_String_any_f (B b : Nat) (l : List UInt8) (w : World) (h : Lib.IsBuilderF 97 5 B b (Lib.byteCells l) w) (hBw : B ≤ w.heap.size) :
    Calls Tryd.prog 85 #[.pointer (some ⟨b, 0, none⟩)] w fun e w' => e = .returned (.string ⟨l.toArray⟩) ∧ (Lib.IsBuilderF 97 5 B b (Lib.byteCells l) w' ∧ Below B w w') := Any.Builder_String_any_f Tryd.lays169 Tryd.Builder_Extra_169 B b l w h hBw
open Go.RowKit in
/-- (*strings.Builder).String: "String returns the accumulated string.": OF A BUILDER THAT HOLDS AT LEAST ONE BYTE. ✋ THE MODEL FREEZES THOSE BYTES IN THE BUFFER (unsafe.String): a later write INTO them ends the model's run without an answer; a later append BEHIND them goes on. The statement's order of evaluation is drawn: one draw. THE FORM '_k': OVER 'Lib.IsBuilderF' (a builder that 'String()' may have read), AND WITH THE FRAME THAT REACHES ABOVE THE BUILDER: 'Lib.OthersKept': every block that is not b and is no row of uint8's stands as it stood: the iterator of a range among them. (LAID: no walk: one application.) -/
theorem Tryd.Builder_String_k (B b : Nat) (l : List UInt8) (w : World) (h : Lib.IsBuilderF 97 5 B b (Lib.byteCells l) w) (h0 : l ≠ []) :
    Calls Tryd.prog 85 #[.pointer (some ⟨b, 0, none⟩)] w fun e w' => e = .returned (.string ⟨l.toArray⟩) ∧ (Lib.IsBuilderF 97 5 B b (Lib.byteCells l) w' ∧ Below B w w' ∧ Lib.OthersKept 5 (some b) w w') := Any.Builder_String_k Tryd.lays169 Tryd.Builder_Extra_169 B b l w h h0
open Go.RowKit in
/-- (*strings.Builder).String OF A BUILDER THAT HOLDS NO BYTE: the empty string; THE FORM '_k': OVER 'Lib.IsBuilderF' (a builder that 'String()' may have read), AND WITH THE FRAME THAT REACHES ABOVE THE BUILDER: 'Lib.OthersKept': every block that is not b and is no row of uint8's stands as it stood: the iterator of a range among them. (LAID: no walk: one application.) -/
theorem Tryd.Builder_String_empty_k (B b : Nat) (w : World) (h : Lib.IsBuilderF 97 5 B b [] w) (hBw : B ≤ w.heap.size) :
    Calls Tryd.prog 85 #[.pointer (some ⟨b, 0, none⟩)] w fun e w' => e = .returned (.string ⟨#[]⟩) ∧ (Lib.IsBuilderF 97 5 B b [] w' ∧ Below B w w' ∧ Lib.OthersKept 5 (some b) w w') := Any.Builder_String_empty_k Tryd.lays169 Tryd.Builder_Extra_169 B b w h hBw
open Go.RowKit in
/-- (*strings.Builder).String: "String returns the accumulated string.": WHATEVER THE BUILDER HOLDS; THE FORM '_k': OVER 'Lib.IsBuilderF' (a builder that 'String()' may have read), AND WITH THE FRAME THAT REACHES ABOVE THE BUILDER: 'Lib.OthersKept': every block that is not b and is no row of uint8's stands as it stood: the iterator of a range among them. (LAID: no walk: one application.) -/
theorem Tryd.Builder_String_any_k (B b : Nat) (l : List UInt8) (w : World) (h : Lib.IsBuilderF 97 5 B b (Lib.byteCells l) w) (hBw : B ≤ w.heap.size) :
    Calls Tryd.prog 85 #[.pointer (some ⟨b, 0, none⟩)] w fun e w' => e = .returned (.string ⟨l.toArray⟩) ∧ (Lib.IsBuilderF 97 5 B b (Lib.byteCells l) w' ∧ Below B w w' ∧ Lib.OthersKept 5 (some b) w w') := Any.Builder_String_any_k Tryd.lays169 Tryd.Builder_Extra_169 B b l w h hBw
open Go.RowKit in
/-- (*strings.Builder).grow (no doc but "grow copies the buffer to a new, larger buffer so that there are at least n bytes of capacity beyond len(b.buf)."): AT A BUILDER WITHOUT A BUFFER: a new row of whatever bytes for its buffer, none of them its own yet. Three draws. (LAID: no walk: one application.) -/
theorem Tryd.Builder_grow_fresh_cap (B b n : Nat) (w : World) (hB : B ≤ b) (hbk : w.heap[b]? = some (.cells #[.pointer (some ⟨b, 0, none⟩), .slice none 0 0] 97 (0, 0))) (hBw : B ≤ w.heap.size) (hn : n ≤ 281474976710656) :
    Calls Tryd.prog 102 #[.pointer (some ⟨b, 0, none⟩), .int .i64 n] w fun e w' => e = .returned (.tuple #[]) ∧ (Lib.BuilderAt 97 5 B b (.pointer (some ⟨b, 0, none⟩)) [] w' ∧ Below B w w') ∧ ∃ p cap, w'.cell? ⟨b, 1, none⟩ = some (.slice p 0 cap) ∧ n ≤ cap := Any.Builder_grow_fresh_cap Tryd.lays241 Tryd.Builder_Extra_241 B b n w hB hbk hBw hn
open Go.RowKit in
/-- (*strings.Builder).Grow AT A BUILDER THAT HAS NOT BEEN WRITTEN ('var b strings.Builder; b.Grow(n)'): "Grow grows b's capacity, if necessary, to guarantee space for another n bytes.": it holds no byte behind it as before it. (LAID: no walk: one application.) -/
theorem Tryd.Builder_Grow_fresh_cap (B b n : Nat) (w : World) (hB : B ≤ b) (hbk : w.heap[b]? = some (.cells #[.pointer none, .slice none 0 0] 97 (0, 0))) (hBw : B ≤ w.heap.size) (hn : n ≤ 281474976710656) :
    Calls Tryd.prog 83 #[.pointer (some ⟨b, 0, none⟩), .int .i64 n] w fun e w' => e = .returned (.tuple #[]) ∧ (Lib.BuilderAt 97 5 B b (.pointer (some ⟨b, 0, none⟩)) [] w' ∧ Below B w w') ∧ ∃ p cap, w'.cell? ⟨b, 1, none⟩ = some (.slice p 0 cap) ∧ n ≤ cap := Any.Builder_Grow_fresh_cap Tryd.lays165 Tryd.Builder_Extra_165 B b n w hB hbk hBw hn
def Tryd.lays129_ren : Go.Shelf.Ren := ⟨fun | 129 => 100 | n => n, fun | 53 => 116 | 3 => 3 | 4 => 4 | 46 => 93 | 5 => 5 | 9 => 9 | n => n, fun | n => n⟩
theorem Tryd.lays129 : Go.Proofs.Lays.n129 Tryd.prog Tryd.lays129_ren := {
  mixed := by kernel_rfl
  f129 := Tryd.func100.trans (congrArg some (by kernel_rfl))
  t3 := Tryd.underlying3
  a3 := Tryd.isAgg3
  z3 := Tryd.sizeOf3
  v3 := Tryd.zeroValue3
  t4 := Tryd.underlying4
  a4 := Tryd.isAgg4
  z4 := Tryd.sizeOf4
  v4 := Tryd.zeroValue4
  t5 := Tryd.underlying5
  a5 := Tryd.isAgg5
  z5 := Tryd.sizeOf5
  v5 := Tryd.zeroValue5
  t9 := Tryd.underlying9
  a9 := Tryd.isAgg9
  z9 := Tryd.sizeOf9
  v9 := Tryd.zeroValue9
  t46 := Tryd.underlying93
  a46 := Tryd.isAgg93
  z46 := Tryd.sizeOf93
  v46 := Tryd.zeroValue93
  t53 := Tryd.underlying116
  a53 := Tryd.isAgg116
  z53 := Tryd.sizeOf116
  v53 := Tryd.zeroValue116 }
/-- bits.Len64: "Len64 returns the minimum number of bits required to represent x; the result is 0 for x == 0.": IT RETURNS 'Lib.bitLen x'; the world is as it was. ('h0', 'h1': x is a uint64.) (LAID: no walk: one application.) -/
theorem Tryd.bits_Len64 (x : Int) (w : World) (h0 : 0 ≤ x) (h1 : x ≤ 18446744073709551615) :
    Calls Tryd.prog 100 #[.int .u64 x] w fun e w' => e = .returned (.int .i64 (Lib.bitLen x.toNat)) ∧ w' = w := Any.bits_Len64 Tryd.lays129 x w h0 h1
def Tryd.lays190_ren : Go.Shelf.Ren := ⟨fun | 190 => 66 | 125 => 81 | 258 => 80 | 128 => 99 | 129 => 100 | 302 => 90 | 303 => 91 | 304 => 92 | 305 => 93 | 306 => 94 | 307 => 95 | 308 => 96 | 309 => 97 | 310 => 98 | 333 => 105 | 329 => 106 | 330 => 107 | 334 => 108 | 335 => 109 | 336 => 110 | 344 => 114 | n => n, fun | 31 => 42 | 9 => 9 | 3 => 3 | 46 => 93 | 0 => 0 | 51 => 114 | 53 => 116 | 4 => 4 | 183 => 107 | 182 => 106 | 131 => 111 | 5 => 5 | 218 => 118 | 222 => 122 | 228 => 127 | 229 => 128 | n => n, fun | n => n⟩
theorem Tryd.lays190 : Go.Proofs.Lays.n190 Tryd.prog Tryd.lays190_ren := {
  mixed := by kernel_rfl
  f125 := Tryd.func81.trans (congrArg some (by kernel_rfl))
  f128 := Tryd.func99.trans (congrArg some (by kernel_rfl))
  f129 := Tryd.func100.trans (congrArg some (by kernel_rfl))
  f190 := Tryd.func66.trans (congrArg some (by kernel_rfl))
  f258 := Tryd.func80.trans (congrArg some (by kernel_rfl))
  f302 := Tryd.func90.trans (congrArg some (by kernel_rfl))
  f303 := Tryd.func91.trans (congrArg some (by kernel_rfl))
  f304 := Tryd.func92.trans (congrArg some (by kernel_rfl))
  f305 := Tryd.func93.trans (congrArg some (by kernel_rfl))
  f306 := Tryd.func94.trans (congrArg some (by kernel_rfl))
  f307 := Tryd.func95.trans (congrArg some (by kernel_rfl))
  f308 := Tryd.func96.trans (congrArg some (by kernel_rfl))
  f309 := Tryd.func97.trans (congrArg some (by kernel_rfl))
  f310 := Tryd.func98.trans (congrArg some (by kernel_rfl))
  f329 := Tryd.func106.trans (congrArg some (by kernel_rfl))
  f330 := Tryd.func107.trans (congrArg some (by kernel_rfl))
  f333 := Tryd.func105.trans (congrArg some (by kernel_rfl))
  f334 := Tryd.func108.trans (congrArg some (by kernel_rfl))
  f335 := Tryd.func109.trans (congrArg some (by kernel_rfl))
  f336 := Tryd.func110.trans (congrArg some (by kernel_rfl))
  f344 := Tryd.func114.trans (congrArg some (by kernel_rfl))
  t0 := Tryd.underlying0
  a0 := Tryd.isAgg0
  z0 := Tryd.sizeOf0
  v0 := Tryd.zeroValue0
  t3 := Tryd.underlying3
  a3 := Tryd.isAgg3
  z3 := Tryd.sizeOf3
  v3 := Tryd.zeroValue3
  t4 := Tryd.underlying4
  a4 := Tryd.isAgg4
  z4 := Tryd.sizeOf4
  v4 := Tryd.zeroValue4
  t5 := Tryd.underlying5
  a5 := Tryd.isAgg5
  z5 := Tryd.sizeOf5
  v5 := Tryd.zeroValue5
  t9 := Tryd.underlying9
  a9 := Tryd.isAgg9
  z9 := Tryd.sizeOf9
  v9 := Tryd.zeroValue9
  t31 := Tryd.underlying42
  a31 := Tryd.isAgg42
  z31 := Tryd.sizeOf42
  v31 := Tryd.zeroValue42
  t46 := Tryd.underlying93
  a46 := Tryd.isAgg93
  z46 := Tryd.sizeOf93
  v46 := Tryd.zeroValue93
  t51 := Tryd.underlying114
  a51 := Tryd.isAgg114
  z51 := Tryd.sizeOf114
  v51 := Tryd.zeroValue114
  t53 := Tryd.underlying116
  a53 := Tryd.isAgg116
  z53 := Tryd.sizeOf116
  v53 := Tryd.zeroValue116
  t131 := Tryd.underlying111
  a131 := Tryd.isAgg111
  z131 := Tryd.sizeOf111
  v131 := Tryd.zeroValue111
  t182 := Tryd.underlying106
  a182 := Tryd.isAgg106
  z182 := Tryd.sizeOf106
  v182 := Tryd.zeroValue106
  t183 := Tryd.underlying107
  a183 := Tryd.isAgg107
  z183 := Tryd.sizeOf107
  v183 := Tryd.zeroValue107
  t218 := Tryd.underlying118
  a218 := Tryd.isAgg118
  z218 := Tryd.sizeOf118
  v218 := Tryd.zeroValue118
  t222 := Tryd.underlying122
  a222 := Tryd.isAgg122
  z222 := Tryd.sizeOf122
  v222 := Tryd.zeroValue122
  t228 := Tryd.underlying127
  a228 := Tryd.isAgg127
  z228 := Tryd.sizeOf127
  v228 := Tryd.zeroValue127
  t229 := Tryd.underlying128
  a229 := Tryd.isAgg128
  z229 := Tryd.sizeOf128
  v229 := Tryd.zeroValue128 }
open Go.Sort Go.RowKit in
theorem Tryd.slices_Sort_string (blk off cap : Nat) (ss : List (List UInt8)) (w : World) (hH : Holds encStr w blk off ss.toArray) (hblk : blk < w.heap.size) (hsz : ss.length < 4611686018427387904) :
    Calls Tryd.prog 66 #[.slice (some ⟨blk, off, none⟩) ss.length cap] w fun e w' =>
      e = .returned (.tuple #[]) ∧ ∃ n os, w' = grow (putRow encStr (Sort.ahead w n) blk off (ss.mergeSort fun x y => decide (x ≤ y)).toArray) os := Any.slices_Sort_string Tryd.lays190 blk off cap ss w hH hblk hsz
def Tryd.lays206_ren : Go.Shelf.Ren := ⟨fun | 206 => 86 | n => n, fun | 9 => 9 | 4 => 4 | 3 => 3 | n => n, fun | n => n⟩
theorem Tryd.lays206 : Go.Proofs.Lays.n206 Tryd.prog Tryd.lays206_ren := {
  mixed := by kernel_rfl
  f206 := Tryd.func86.trans (congrArg some (by kernel_rfl))
  t3 := Tryd.underlying3
  a3 := Tryd.isAgg3
  z3 := Tryd.sizeOf3
  v3 := Tryd.zeroValue3
  t4 := Tryd.underlying4
  a4 := Tryd.isAgg4
  z4 := Tryd.sizeOf4
  v4 := Tryd.zeroValue4
  t9 := Tryd.underlying9
  a9 := Tryd.isAgg9
  z9 := Tryd.sizeOf9
  v9 := Tryd.zeroValue9 }
open Go.RowKit Go.Lib in
/-- internal/stringslite.HasPrefix (what strings.HasPrefix calls). (LAID: no walk: one application.) -/
theorem Tryd.stringslite_HasPrefix (s p : ByteArray) (w : World) :
    Calls Tryd.prog 86 #[.string s, .string p] w fun e w' => e = .returned (.bool (Lib.hasPrefix s.data.toList p.data.toList)) ∧ w' = w := Any.stringslite_HasPrefix Tryd.lays206 s p w
def Tryd.lays99_ren : Go.Shelf.Ren := ⟨fun | 99 => 75 | 206 => 86 | n => n, fun | 9 => 9 | 4 => 4 | 3 => 3 | n => n, fun | n => n⟩
theorem Tryd.lays99 : Go.Proofs.Lays.n99 Tryd.prog Tryd.lays99_ren := {
  mixed := by kernel_rfl
  f99 := Tryd.func75.trans (congrArg some (by kernel_rfl))
  f206 := Tryd.func86.trans (congrArg some (by kernel_rfl))
  t3 := Tryd.underlying3
  a3 := Tryd.isAgg3
  z3 := Tryd.sizeOf3
  v3 := Tryd.zeroValue3
  t4 := Tryd.underlying4
  a4 := Tryd.isAgg4
  z4 := Tryd.sizeOf4
  v4 := Tryd.zeroValue4
  t9 := Tryd.underlying9
  a9 := Tryd.isAgg9
  z9 := Tryd.sizeOf9
  v9 := Tryd.zeroValue9 }
open Go.RowKit Go.Lib in
/-- strings.HasPrefix: "HasPrefix reports whether the string s begins with prefix.": IT RETURNS 'Lib.hasPrefix s prefix'; the world is as it was. (LAID: no walk: one application.) -/
theorem Tryd.strings_HasPrefix (s p : ByteArray) (w : World) :
    Calls Tryd.prog 75 #[.string s, .string p] w fun e w' => e = .returned (.bool (Lib.hasPrefix s.data.toList p.data.toList)) ∧ w' = w := Any.strings_HasPrefix Tryd.lays99 s p w
open Go.RowKit Go.Sort in
/-- .. and plain. (LAID: no walk: one application.) -/
theorem Tryd.slices_Sort_string_none (p : Option Addr) (cap : Nat) (w : World) :
    Calls Tryd.prog 66 #[.slice p 0 cap] w fun e w' => e = .returned (.tuple #[]) ∧ w' = w := Any.slices_Sort_string_none Tryd.lays190 p cap w
def Tryd.mkeys_ren : Go.Shelf.Ren := ⟨fun | 7 => 48 | 10 => 67 | n => n, fun | 23 => 68 | 26 => 9 | 3 => 4 | 28 => 74 | 0 => 0 | 27 => 73 | 33 => 80 | 4 => 4 | n => n, fun | n => n⟩
theorem Tryd.mkeys : Go.Proofs.SlLaysZ.n7 Tryd.prog Tryd.mkeys_ren := {
  mixed := by kernel_rfl
  f7 := ⟨Tryd.f48.name, by decide, Tryd.func48.trans (congrArg some (by kernel_rfl))⟩
  f10 := ⟨Tryd.f67.name, by decide, Tryd.func67.trans (congrArg some (by kernel_rfl))⟩
  t0 := Tryd.underlying0
  a0 := Tryd.isAgg0
  z0 := Tryd.sizeOf0
  v0 := Tryd.zeroValue0
  t4 := Tryd.underlying4
  a4 := Tryd.isAgg4
  z4 := Tryd.sizeOf4
  v4 := Tryd.zeroValue4
  t23 := Tryd.underlying68
  a23 := Tryd.isAgg68
  z23 := Tryd.sizeOf68
  v23 := Tryd.zeroValue68
  t26 := Tryd.underlying9
  a26 := Tryd.isAgg9
  z26 := Tryd.sizeOf9
  v26 := Tryd.zeroValue9
  t27 := Tryd.underlying73
  a27 := Tryd.isAgg73
  z27 := Tryd.sizeOf73
  v27 := Tryd.zeroValue73
  t28 := Tryd.underlying74
  a28 := Tryd.isAgg74
  z28 := Tryd.sizeOf74
  v28 := Tryd.zeroValue74
  t33 := Tryd.underlying80
  a33 := Tryd.isAgg80
  z33 := Tryd.sizeOf80
  v33 := Tryd.zeroValue80 }
def Tryd.msorted_ren : Go.Shelf.Ren := ⟨fun | 6 => 47 | 8 => 65 | 9 => 66 | 11 => 79 | 13 => 81 | 12 => 80 | 23 => 99 | 24 => 100 | 14 => 90 | 15 => 91 | 16 => 92 | 17 => 93 | 18 => 94 | 19 => 95 | 20 => 96 | 21 => 97 | 22 => 98 | 25 => 105 | 26 => 106 | 27 => 107 | 28 => 108 | 29 => 109 | 30 => 110 | 31 => 114 | n => n, fun | 26 => 9 | 28 => 74 | 24 => 42 | 0 => 0 | 3 => 3 | 37 => 93 | 48 => 114 | 50 => 116 | 4 => 4 | 40 => 107 | 39 => 106 | 45 => 111 | 5 => 5 | 9 => 9 | 51 => 118 | 55 => 122 | 57 => 127 | 58 => 128 | 33 => 80 | n => n, fun | n => n⟩
theorem Tryd.msorted : Go.Proofs.SlLaysZ.n6 Tryd.prog Tryd.msorted_ren := {
  mixed := by kernel_rfl
  f6 := ⟨Tryd.f47.name, by decide, Tryd.func47.trans (congrArg some (by kernel_rfl))⟩
  f8 := ⟨Tryd.f65.name, by decide, Tryd.func65.trans (congrArg some (by kernel_rfl))⟩
  f11 := ⟨Tryd.f79.name, by decide, Tryd.func79.trans (congrArg some (by kernel_rfl))⟩
  t0 := Tryd.underlying0
  a0 := Tryd.isAgg0
  z0 := Tryd.sizeOf0
  v0 := Tryd.zeroValue0
  t24 := Tryd.underlying42
  a24 := Tryd.isAgg42
  z24 := Tryd.sizeOf42
  v24 := Tryd.zeroValue42
  t26 := Tryd.underlying9
  a26 := Tryd.isAgg9
  z26 := Tryd.sizeOf9
  v26 := Tryd.zeroValue9
  t28 := Tryd.underlying74
  a28 := Tryd.isAgg74
  z28 := Tryd.sizeOf74
  v28 := Tryd.zeroValue74
  i26 := by kernel_rfl }
def Tryd.msort_ren : Go.Shelf.Ren := ⟨fun | 6 => 66 | 8 => 81 | 9 => 80 | 19 => 99 | 20 => 100 | 21 => 90 | 22 => 91 | 23 => 92 | 24 => 93 | 25 => 94 | 26 => 95 | 27 => 96 | 28 => 97 | 29 => 98 | 36 => 105 | 31 => 106 | 32 => 107 | 37 => 108 | 38 => 109 | 39 => 110 | 41 => 114 | n => n, fun | 27 => 42 | 29 => 9 | 3 => 3 | 32 => 93 | 26 => 42 | 0 => 0 | 44 => 114 | 46 => 116 | 4 => 4 | 36 => 107 | 35 => 106 | 41 => 111 | 5 => 5 | 9 => 9 | 53 => 118 | 57 => 122 | 63 => 127 | 64 => 128 | n => n, fun | n => n⟩
theorem Tryd.msort : Go.Proofs.SlLaysM.n6 Tryd.prog Tryd.msort_ren := {
  mixed := by kernel_rfl
  f6 := ⟨Tryd.f66.name, by decide, Tryd.func66.trans (congrArg some (by kernel_rfl))⟩
  f8 := Tryd.func81.trans (congrArg some (by kernel_rfl))
  f9 := ⟨Tryd.f80.name, by decide, Tryd.func80.trans (congrArg some (by kernel_rfl))⟩
  f19 := Tryd.func99.trans (congrArg some (by kernel_rfl))
  f20 := Tryd.func100.trans (congrArg some (by kernel_rfl))
  f21 := ⟨Tryd.f90.name, by decide, Tryd.func90.trans (congrArg some (by kernel_rfl))⟩
  f22 := ⟨Tryd.f91.name, by decide, Tryd.func91.trans (congrArg some (by kernel_rfl))⟩
  f23 := ⟨Tryd.f92.name, by decide, Tryd.func92.trans (congrArg some (by kernel_rfl))⟩
  f24 := ⟨Tryd.f93.name, by decide, Tryd.func93.trans (congrArg some (by kernel_rfl))⟩
  f25 := ⟨Tryd.f94.name, by decide, Tryd.func94.trans (congrArg some (by kernel_rfl))⟩
  f26 := ⟨Tryd.f95.name, by decide, Tryd.func95.trans (congrArg some (by kernel_rfl))⟩
  f27 := ⟨Tryd.f96.name, by decide, Tryd.func96.trans (congrArg some (by kernel_rfl))⟩
  f28 := ⟨Tryd.f97.name, by decide, Tryd.func97.trans (congrArg some (by kernel_rfl))⟩
  f29 := ⟨Tryd.f98.name, by decide, Tryd.func98.trans (congrArg some (by kernel_rfl))⟩
  f31 := Tryd.func106.trans (congrArg some (by kernel_rfl))
  f32 := Tryd.func107.trans (congrArg some (by kernel_rfl))
  f36 := ⟨Tryd.f105.name, by decide, Tryd.func105.trans (congrArg some (by kernel_rfl))⟩
  f37 := ⟨Tryd.f108.name, by decide, Tryd.func108.trans (congrArg some (by kernel_rfl))⟩
  f38 := ⟨Tryd.f109.name, by decide, Tryd.func109.trans (congrArg some (by kernel_rfl))⟩
  f39 := ⟨Tryd.f110.name, by decide, Tryd.func110.trans (congrArg some (by kernel_rfl))⟩
  f41 := ⟨Tryd.f114.name, by decide, Tryd.func114.trans (congrArg some (by kernel_rfl))⟩
  t0 := Tryd.underlying0
  a0 := Tryd.isAgg0
  z0 := Tryd.sizeOf0
  v0 := Tryd.zeroValue0
  t3 := Tryd.underlying3
  a3 := Tryd.isAgg3
  z3 := Tryd.sizeOf3
  v3 := Tryd.zeroValue3
  t4 := Tryd.underlying4
  a4 := Tryd.isAgg4
  z4 := Tryd.sizeOf4
  v4 := Tryd.zeroValue4
  t5 := Tryd.underlying5
  a5 := Tryd.isAgg5
  z5 := Tryd.sizeOf5
  v5 := Tryd.zeroValue5
  t9 := Tryd.underlying9
  a9 := Tryd.isAgg9
  z9 := Tryd.sizeOf9
  v9 := Tryd.zeroValue9
  t26 := Tryd.underlying42
  a26 := Tryd.isAgg42
  z26 := Tryd.sizeOf42
  v26 := Tryd.zeroValue42
  t27 := Tryd.underlying42
  a27 := Tryd.isAgg42
  z27 := Tryd.sizeOf42
  v27 := Tryd.zeroValue42
  t29 := Tryd.underlying9
  a29 := Tryd.isAgg9
  z29 := Tryd.sizeOf9
  v29 := Tryd.zeroValue9
  t32 := Tryd.underlying93
  a32 := Tryd.isAgg93
  z32 := Tryd.sizeOf93
  v32 := Tryd.zeroValue93
  t35 := Tryd.underlying106
  a35 := Tryd.isAgg106
  z35 := Tryd.sizeOf106
  v35 := Tryd.zeroValue106
  t36 := Tryd.underlying107
  a36 := Tryd.isAgg107
  z36 := Tryd.sizeOf107
  v36 := Tryd.zeroValue107
  t41 := Tryd.underlying111
  a41 := Tryd.isAgg111
  z41 := Tryd.sizeOf111
  v41 := Tryd.zeroValue111
  t44 := Tryd.underlying114
  a44 := Tryd.isAgg114
  z44 := Tryd.sizeOf114
  v44 := Tryd.zeroValue114
  t46 := Tryd.underlying116
  a46 := Tryd.isAgg116
  z46 := Tryd.sizeOf116
  v46 := Tryd.zeroValue116
  t53 := Tryd.underlying118
  a53 := Tryd.isAgg118
  z53 := Tryd.sizeOf118
  v53 := Tryd.zeroValue118
  t57 := Tryd.underlying122
  a57 := Tryd.isAgg122
  z57 := Tryd.sizeOf122
  v57 := Tryd.zeroValue122
  t63 := Tryd.underlying127
  a63 := Tryd.isAgg127
  z63 := Tryd.sizeOf127
  v63 := Tryd.zeroValue127
  t64 := Tryd.underlying128
  a64 := Tryd.isAgg128
  z64 := Tryd.sizeOf128
  v64 := Tryd.zeroValue128 }
end Go.Proofs

namespace Go.Proofs.YtilkpjcbmllgmaaDoor
set_option linter.unusedVariables false
set_option linter.unusedSimpArgs false
open Go.RowKit

/-- Does a byte belong to a word? -/
def inWI (c : Int) : Bool := decide (97 ≤ c ∧ c ≤ 122) || (decide (65 ≤ c ∧ c ≤ 90) || (decide (48 ≤ c ∧ c ≤ 57) || decide (c = 95)))
def inW (c : UInt8) : Bool := inWI (c.toNat : Int)

def sgn : List (List UInt8) := [[60, 45, 62], [45, 62], [126], [38], [124], [40], [41]]

/-- The word with which a text begins, or nothing if it is none. -/
def wordTok (l : List UInt8) : List UInt8 :=
  let u := l.takeWhile inW
  if u = [48] ∨ u = [49] ∨ vn ⟨u.toArray⟩ = true then u else []

/-- The token with which a text begins. -/
def tok (l : List UInt8) : List UInt8 := ((sgn.find? fun p => p.isPrefixOf l).getD (wordTok l))

/-- The package's table of signs lies as it was laid. -/
structure SignsAt (w : World) : Prop where
  lt : 0 < w.heap.size
  c0 : w.cell? ⟨0, 0, none⟩ = some (.string ⟨#[60, 45, 62]⟩)
  c1 : w.cell? ⟨0, 1, none⟩ = some (.string ⟨#[45, 62]⟩)
  c2 : w.cell? ⟨0, 2, none⟩ = some (.string ⟨#[126]⟩)
  c3 : w.cell? ⟨0, 3, none⟩ = some (.string ⟨#[38]⟩)
  c4 : w.cell? ⟨0, 4, none⟩ = some (.string ⟨#[124]⟩)
  c5 : w.cell? ⟨0, 5, none⟩ = some (.string ⟨#[40]⟩)
  c6 : w.cell? ⟨0, 6, none⟩ = some (.string ⟨#[41]⟩)

theorem SignsAt.kept {w w' : World} {row : Option Nat} (h : SignsAt w) (hg : w.grownBy w' row) (hr : row ≠ some 0) : SignsAt w' :=
  ⟨Nat.lt_of_lt_of_le h.lt hg.size, hg.cell h.c0 (fun e => hr e.symm), hg.cell h.c1 (fun e => hr e.symm), hg.cell h.c2 (fun e => hr e.symm), hg.cell h.c3 (fun e => hr e.symm), hg.cell h.c4 (fun e => hr e.symm), hg.cell h.c5 (fun e => hr e.symm), hg.cell h.c6 (fun e => hr e.symm)⟩
theorem SignsAt.go {w w' : World} (h : SignsAt w) (hb : Below w.heap.size w w') : SignsAt w' := h.kept (only_of_below hb none) (by simp)

set_option maxHeartbeats 400000 in
theorem inWord_any (c : Int) (hc : 0 ≤ c) (hc' : c ≤ 255) (w : World) :
    Calls Tryd.prog 76 #[.int .u8 c] w fun e w' => e = .returned (.bool (inWI c)) ∧ w = w' := by
  go_enter Tryd.func76, Tryd.ntmps76
  go_wp2
  all_goals (go_ret; refine ⟨ret_bool ?_, rfl⟩; grind [inWI])

theorem tok_sign {l : List UInt8} {k : Nat} (hk : k < sgn.length) (h : ∀ j, j < k → (sgn.getD j []).isPrefixOf l = false) (hp : (sgn.getD k []).isPrefixOf l = true) : tok l = sgn.getD k [] := by
  have hf : sgn.find? (fun p => p.isPrefixOf l) = some (sgn.getD k []) := by
    rw [List.find?_eq_some_iff_getElem]
    refine ⟨hp, k, hk, by rw [List.getD_eq_getElem?_getD, List.getElem?_eq_getElem hk]; rfl, fun j hj => ?_⟩
    have := h j hj
    rw [List.getD_eq_getElem?_getD, List.getElem?_eq_getElem (by omega)] at this
    simpa using this
  rw [tok, hf]
  rfl
theorem tok_word {l : List UInt8} (h : ∀ j, j < 7 → (sgn.getD j []).isPrefixOf l = false) : tok l = wordTok l := by
  have hf : sgn.find? (fun p => p.isPrefixOf l) = none := by
    rw [List.find?_eq_none]
    intro p hp
    obtain ⟨j, hj, rfl⟩ := List.mem_iff_getElem.1 hp
    have := h j hj
    rw [List.getD_eq_getElem?_getD, List.getElem?_eq_getElem hj] at this
    rw [show (some sgn[j]).getD [] = sgn[j] from rfl] at this
    rw [this]
    exact Bool.false_ne_true
  rw [tok, hf]
  rfl

theorem idx_signs (k : Nat) (hk : k < 7) (w : World) : (Instr.index 88 (.agg #[.string ⟨#[60, 45, 62]⟩, .string ⟨#[45, 62]⟩, .string ⟨#[126]⟩, .string ⟨#[38]⟩, .string ⟨#[124]⟩, .string ⟨#[40]⟩, .string ⟨#[41]⟩]) (.int .i64 (k : Int))).run Tryd.prog w = .ok (.string ⟨(sgn.getD k []).toArray⟩) w := by
  have h7 : k = 0 ∨ k = 1 ∨ k = 2 ∨ k = 3 ∨ k = 4 ∨ k = 5 ∨ k = 6 := by omega
  rcases h7 with rfl | rfl | rfl | rfl | rfl | rfl | rfl <;> (refine Eq.trans ?_ rfl; kernel_rfl)

theorem extract_take (s : ByteArray) (k : Nat) : s.extract 0 k = ⟨(s.data.toList.take k).toArray⟩ := by
  obtain ⟨⟨l⟩⟩ := s
  apply ByteArray.ext
  simp [ByteArray.data_extract]

theorem mk_size (l : List UInt8) : (⟨l.toArray⟩ : ByteArray).size = l.length := by simp only [ByteArray.size, List.size_toArray]
theorem take_size (s : ByteArray) (k : Nat) (hk : k ≤ s.size) (hs : s.size ≤ 1000000) : (⟨(s.data.toList.take k).toArray⟩ : ByteArray).size ≤ maxLen := by
  rw [mk_size, List.length_take]
  unfold maxLen
  omega

theorem takeWhile_take {l : List UInt8} {p : UInt8 → Bool} {k : Nat} (h1 : ∀ c ∈ l.take k, p c = true) (h2 : ∀ c, l[k]? = some c → p c = false) : l.takeWhile p = l.take k := by
  induction l generalizing k with
  | nil => simp
  | cons a l ih =>
    cases k with
    | zero =>
      have := h2 a rfl
      simp [List.takeWhile_cons, this]
    | succ k =>
      have ha := h1 a (by simp)
      rw [List.takeWhile_cons, if_pos ha, List.take_succ_cons, ih (fun c hc => h1 c (by rw [List.take_succ_cons]; exact List.mem_cons_of_mem _ hc)) (fun c hc => h2 c (by simpa using hc))]

set_option maxRecDepth 100000 in
set_option maxHeartbeats 1000000 in
theorem firstToken_any (s : ByteArray) (hs : s.size ≤ 1000000) (w : World) (h : SignsAt w) :
    Calls Tryd.prog 58 #[.string s] w fun e w' => e = .returned (.string ⟨(tok s.data.toList).toArray⟩) ∧ w' = w := by
  obtain ⟨hlt, c0, c1, c2, c3, c4, c5, c6⟩ := h
  go_enter Tryd.func58, Tryd.ntmps58
  go_wp2_with fail
  clear c0 c1 c2 c3 c4 c5 c6
  go_loop [8] (fun i => ∃ k : Nat, k ≤ 7 ∧ i = .int .i64 k ∧ Hid (∀ j, j < k → (sgn.getD j []).isPrefixOf s.data.toList = false)) (fun i => 7 - (intOf i).toNat)
  case atStart => exact ⟨0, by omega, rfl, fun j hj => by omega⟩
  case round =>
    obtain ⟨k, hk, rfl, hno⟩ := hrel
    by_cases hlt7 : k < 7
    · have hix := idx_signs k hlt7
      have hkl : k < sgn.length := hlt7
      cases hp : (sgn.getD k []).isPrefixOf s.data.toList
      · have HP := hidIt hp
        clear hp
        generalize hsg : sgn.getD k [] = g at *
        have HG := hidIt hsg
        clear hsg
        go_wp2_with fail
        refine (Tryd.strings_HasPrefix s ⟨g.toArray⟩ w).mono ?_
        rintro e w' ⟨rfl, rfl⟩
        have HQ : Hid (Lib.hasPrefix s.data.toList (⟨g.toArray⟩ : ByteArray).data.toList = false) := HP.out
        rw [HQ.out]
        go_wp2_with fail
        go_round
        case rel => exact ⟨k + 1, by omega, by go_num, fun j hj => by
          rcases Nat.lt_succ_iff_lt_or_eq.1 hj with h | h
          · exact hno.out j h
          · rw [h, HG.out]; exact HP.out⟩
        case measure => simp [intOf]; omega
      · have HT := hidIt (tok_sign hkl hno.out hp)
        have HP := hidIt hp
        clear hp
        generalize sgn.getD k [] = g at *
        go_wp2_with fail
        refine (Tryd.strings_HasPrefix s ⟨g.toArray⟩ w).mono ?_
        rintro e w' ⟨rfl, rfl⟩
        have HQ : Hid (Lib.hasPrefix s.data.toList (⟨g.toArray⟩ : ByteArray).data.toList = true) := HP.out
        rw [HQ.out]
        go_wp2_with fail
        go_ret
        exact ⟨congrArg (fun l : List UInt8 => Ending.returned (.string ⟨l.toArray⟩)) HT.out.symm, rfl⟩
    · obtain rfl : k = 7 := by omega
      have HT := hidIt (tok_word hno.out)
      clear hno
      go_wp2_with fail
      go_loop [5] (fun i => ∃ k : Nat, k ≤ s.size ∧ i = .int .i64 k ∧ Hid (∀ c ∈ s.data.toList.take k, inW c = true)) (fun i => s.size - (intOf i).toNat)
      case atStart => exact ⟨0, by omega, rfl, by intro c hc; simp at hc⟩
      case round =>
        obtain ⟨k, hk, rfl, hall⟩ := hrel
        by_cases hc : ∃ h : k < s.size, inW s[k] = true
        · obtain ⟨hlt, hin⟩ := hc
          have hb : 0 ≤ (s[k].toNat : Int) := by omega
          have hb' : (s[k].toNat : Int) ≤ 255 := by have := s[k].toNat_lt; omega
          have HI : Hid (inWI (s[k].toNat : Int) = true) := hin
          have HS : Hid (∀ c ∈ s.data.toList.take (k + 1), inW c = true) := by
            intro c hc
            rw [List.take_succ_eq_append_getElem (by simpa using hlt)] at hc
            rcases List.mem_append.1 hc with hc | hc
            · exact hall.out c hc
            · simp only [List.mem_singleton] at hc
              subst hc
              exact hin
          clear hin
          go_wp2_with fail
          refine (inWord_any _ hb hb' w).mono ?_
          rintro e w' ⟨rfl, rfl⟩
          rw [HI.out]
          go_wp2_with fail
          go_round
          case rel => exact ⟨k + 1, by omega, by go_num, HS⟩
          case measure => simp [intOf]; omega
        · have hTW : s.data.toList.takeWhile inW = s.data.toList.take k := takeWhile_take hall.out (fun c hc2 => by
            obtain ⟨h1, h2⟩ := List.getElem?_eq_some_iff.1 hc2
            cases hi : inW c
            · rfl
            · exact absurd ⟨(by simpa using h1), (by rw [← h2] at hi; exact hi)⟩ hc)
          obtain ⟨u, hu⟩ : ∃ u, u = s.data.toList.take k := ⟨_, rfl⟩
          rw [← hu] at hTW
          have HW : Hid (tok s.data.toList = if u = [48] ∨ u = [49] ∨ vn ⟨u.toArray⟩ = true then u else []) := by
            show _ = _
            rw [HT.out]
            simp only [wordTok, hTW]
          clear hTW
          have hX : Hid (s.extract 0 k = ⟨u.toArray⟩) := by
            show _ = _
            rw [hu]
            exact extract_take s k
          have hXL : Hid ((s.extract 0 k).toList = u) := by show _ = _; rw [hX.out, Lib.toList_data]
          have HW2 : Hid ((s.extract 0 k).toList = [48] ∨ (s.extract 0 k).toList = [49] ∨ vn (s.extract 0 k) = true → tok s.data.toList = u) := fun h => by
            rw [HW.out, if_pos (by rw [← hX.out]; rw [hXL.out] at h; exact h)]
          have HW3 : Hid (¬ (s.extract 0 k).toList = [48] → ¬ (s.extract 0 k).toList = [49] → vn (s.extract 0 k) = false → tok s.data.toList = []) := fun h1 h2 h3 => by
            rw [HW.out, if_neg (by rw [← hX.out]; rw [hXL.out] at h1 h2; exact fun h => h.elim h1 fun h => h.elim h2 fun h => by rw [h3] at h; cases h)]
          have hxs : (s.extract 0 k).size ≤ maxLen := by rw [hX.out, hu]; exact take_size s k hk hs
          have HF : Hid (tok s.data.toList = u → (s.extract 0 k) = ⟨(tok s.data.toList).toArray⟩) := fun h => by rw [h]; exact hX.out
          by_cases hlt : k < s.size
          · have hb : 0 ≤ (s[k].toNat : Int) := by omega
            have hb' : (s[k].toNat : Int) ≤ 255 := by have := s[k].toNat_lt; omega
            have HI : Hid (inWI (s[k].toNat : Int) = false) := by
              show _ = _
              cases hi : inWI (s[k].toNat : Int)
              · rfl
              · exact absurd ⟨hlt, hi⟩ hc
            clear hc hu
            by_cases h48 : (s.extract 0 k).toList = [48]
            · have HE := hidIt (HF.out (HW2.out (.inl h48)))
              go_wp2_with fail
              refine (inWord_any _ hb hb' w).mono ?_
              rintro e w' ⟨rfl, rfl⟩
              rw [HI.out]
              go_wp2_with fail
              go_ret
              exact ⟨ret_str' HE.out, rfl⟩
            by_cases h49 : (s.extract 0 k).toList = [49]
            · have HE := hidIt (HF.out (HW2.out (.inr (.inl h49))))
              go_wp2_with fail
              refine (inWord_any _ hb hb' w).mono ?_
              rintro e w' ⟨rfl, rfl⟩
              rw [HI.out]
              go_wp2_with fail
              go_ret
              exact ⟨ret_str' HE.out, rfl⟩
            have b48 : ((s.extract 0 k).toList == [48]) = false := beq_eq_false_iff_ne.2 h48
            have b49 : ((s.extract 0 k).toList == [49]) = false := beq_eq_false_iff_ne.2 h49
            cases hvn : vn (s.extract 0 k)
            · have HE := hidIt (HW3.out h48 h49 hvn)
              have HV := hidIt hvn
              clear hvn
              go_wp2_with fail
              refine (inWord_any _ hb hb' w).mono ?_
              rintro e w' ⟨rfl, rfl⟩
              rw [HI.out]
              go_wp2_with fail
              refine (validName_any _ w hxs).mono ?_
              rintro e w' ⟨rfl, rfl⟩
              rw [HV.out]
              go_wp2_with fail
              go_ret
              exact ⟨congrArg (fun l : List UInt8 => Ending.returned (.string ⟨l.toArray⟩)) HE.out.symm, rfl⟩
            · have HE := hidIt (HF.out (HW2.out (.inr (.inr hvn))))
              have HV := hidIt hvn
              clear hvn
              go_wp2_with fail
              refine (inWord_any _ hb hb' w).mono ?_
              rintro e w' ⟨rfl, rfl⟩
              rw [HI.out]
              go_wp2_with fail
              refine (validName_any _ w hxs).mono ?_
              rintro e w' ⟨rfl, rfl⟩
              rw [HV.out]
              go_wp2_with fail
              go_ret
              exact ⟨ret_str' HE.out, rfl⟩
          · clear hc hu
            by_cases h48 : (s.extract 0 k).toList = [48]
            · have HE := hidIt (HF.out (HW2.out (.inl h48)))
              go_wp2_with fail
              go_ret
              exact ⟨ret_str' HE.out, rfl⟩
            by_cases h49 : (s.extract 0 k).toList = [49]
            · have HE := hidIt (HF.out (HW2.out (.inr (.inl h49))))
              go_wp2_with fail
              go_ret
              exact ⟨ret_str' HE.out, rfl⟩
            have b48 : ((s.extract 0 k).toList == [48]) = false := beq_eq_false_iff_ne.2 h48
            have b49 : ((s.extract 0 k).toList == [49]) = false := beq_eq_false_iff_ne.2 h49
            cases hvn : vn (s.extract 0 k)
            · have HE := hidIt (HW3.out h48 h49 hvn)
              have HV := hidIt hvn
              clear hvn
              go_wp2_with fail
              refine (validName_any _ w hxs).mono ?_
              rintro e w' ⟨rfl, rfl⟩
              rw [HV.out]
              go_wp2_with fail
              go_ret
              exact ⟨congrArg (fun l : List UInt8 => Ending.returned (.string ⟨l.toArray⟩)) HE.out.symm, rfl⟩
            · have HE := hidIt (HF.out (HW2.out (.inr (.inr hvn))))
              have HV := hidIt hvn
              clear hvn
              go_wp2_with fail
              refine (validName_any _ w hxs).mono ?_
              rintro e w' ⟨rfl, rfl⟩
              rw [HV.out]
              go_wp2_with fail
              go_ret
              exact ⟨ret_str' HE.out, rfl⟩
end Go.Proofs.YtilkpjcbmllgmaaDoor

namespace Go.Proofs.YtilkpjcbmllgmaaDoor
set_option linter.unusedVariables false
set_option linter.unusedSimpArgs false
open Go.RowKit

/-- Behind spaces. -/
def skipS (l : List UInt8) : List UInt8 := l.dropWhile fun c => c == 32
/-- Behind the current token. -/
def nxt (l : List UInt8) : List UInt8 := skipS (l.drop (tok l).length)

/-- The parser's three cells. -/
def PBox (w : World) (b : Nat) (s : ByteArray) (p : Nat) (t : ByteArray) : Prop := w.heap[b]? = some (.cells #[.string s, .int .i64 (p : Int), .string t] 59 (0, 0))

theorem skipS_step {l : List UInt8} {q : Nat} (hq : q < l.length) (h : l[q] = 32) : skipS (l.drop (q + 1)) = skipS (l.drop q) := by
  rw [List.drop_eq_getElem_cons hq, skipS, skipS, List.dropWhile_cons, if_pos (by rw [h]; rfl)]
theorem skipS_stop {l : List UInt8} {q : Nat} (h : ∀ c, l[q]? = some c → c ≠ 32) : skipS (l.drop q) = l.drop q := by
  by_cases hq : q < l.length
  · rw [List.drop_eq_getElem_cons hq, skipS, List.dropWhile_cons, if_neg]
    have := h _ (List.getElem?_eq_getElem hq)
    simpa using this
  · rw [List.drop_eq_nil_of_le (by omega)]; rfl

theorem PBox.cells {w : World} {b : Nat} {s : ByteArray} {p : Nat} {t : ByteArray} (h : PBox w b s p t) : w.cell? ⟨b, 0, none⟩ = some (.string s) ∧ w.cell? ⟨b, 1, none⟩ = some (.int .i64 (p : Int)) ∧ w.cell? ⟨b, 2, none⟩ = some (.string t) := cell_of3 h
theorem PBox.free {w : World} {b : Nat} {s : ByteArray} {p : Nat} {t : ByteArray} (h : PBox w b s p t) (k : Nat) : w.frozen? ⟨b, k, none⟩ = false := free_any h k
theorem PBox.set1 {w : World} {b : Nat} {s : ByteArray} {p : Nat} {t : ByteArray} (h : PBox w b s p t) (q : Nat) : PBox (w.setCell ⟨b, 1, none⟩ (.int .i64 (q : Int))) b s q t := setCell_heap_self h _
theorem PBox.set2 {w : World} {b : Nat} {s : ByteArray} {p : Nat} {t : ByteArray} (h : PBox w b s p t) (u : ByteArray) : PBox (w.setCell ⟨b, 2, none⟩ (.string u)) b s p u := setCell_heap_self h _
theorem PBox.drewN {w : World} {b : Nat} {s : ByteArray} {p : Nat} {t : ByteArray} (h : PBox w b s p t) (n : Nat) : PBox (w.drewN n) b s p t := h
theorem PBox.lt {w : World} {b : Nat} {s : ByteArray} {p : Nat} {t : ByteArray} (h : PBox w b s p t) : b < w.heap.size := lt_of_block h

theorem extract_drop (s : ByteArray) (k : Nat) : s.extract k s.size = ⟨(s.data.toList.drop k).toArray⟩ := by
  obtain ⟨⟨l⟩⟩ := s
  apply ByteArray.ext
  rw [ByteArray.data_extract]
  show (l.toArray).extract k l.toArray.size = _
  rw [List.size_toArray, List.extract_toArray]
  congr 1
  rw [List.extract_eq_take_drop]
  exact List.take_of_length_le (by simp)
theorem extract_size' (s : ByteArray) (k : Nat) : (s.extract k s.size).size = s.size - k := by
  rw [extract_drop, mk_size, List.length_drop]
  rfl

set_option maxRecDepth 100000 in
set_option maxHeartbeats 1000000 in
theorem next_any (s : ByteArray) (hs : s.size ≤ 1000000) (p : Nat) (t : ByteArray) (hp : p + t.size ≤ s.size) (b : Nat) (hb0 : b ≠ 0) (w : World) (h : PBox w b s p t) (hsg : SignsAt w) :
    Calls Tryd.prog 40 #[.pointer (some ⟨b, 0, none⟩)] w fun e w' => e = .returned (.tuple #[]) ∧ ∃ q, q ≤ s.size ∧ s.data.toList.drop q = skipS (s.data.toList.drop (p + t.size)) ∧ PBox w' b s q ⟨(tok (s.data.toList.drop q)).toArray⟩ ∧ w.grownBy w' (some b) := by
  obtain ⟨c0, c1, c2⟩ := h.cells
  have f1 := h.free 1
  have hlt := h.lt
  have H := hidIt h
  have HSG := hidIt hsg
  clear h hsg
  have hwr : IntKind.i64.wrap ((p : Int) + (t.size : Int)) = (p : Int) + (t.size : Int) := IntWalk.i64_in _ (by omega)
  go_enter Tryd.func40, Tryd.ntmps40
  go_wp2_with fail
  go_still_tail 12, (by kernel_rfl)
  go_wp2_with fail
  have W0 : Hid (PBox (w.setCell ⟨b, 1, none⟩ (.int .i64 ((p : Int) + (t.size : Int)))).drew b s (p + t.size) t) := by
    have := H.out.set1 (p + t.size)
    rw [Int.natCast_add] at this
    exact this
  have G0 : Hid (w.grownBy (w.setCell ⟨b, 1, none⟩ (.int .i64 ((p : Int) + (t.size : Int)))).drew (some b)) := only_drewN (only_setCell (only_refl _ _) (.inl rfl) _) 1
  clear c0 c1 c2 f1 hwr
  generalize (w.setCell ⟨b, 1, none⟩ (.int .i64 ((p : Int) + (t.size : Int)))).drew = W at *
  go_loopg [] (s.size - (p + t.size)) (fun g wr => ∃ q : Nat, q ≤ s.size ∧ g = s.size - q ∧ Hid (skipS (s.data.toList.drop q) = skipS (s.data.toList.drop (p + t.size))) ∧ Hid (PBox wr b s q t) ∧ Hid (w.grownBy wr (some b)))
  case atStart => exact ⟨p + t.size, hp, rfl, rfl, W0.out, G0.out⟩
  case round =>
    clear W0 G0
    obtain ⟨q, hq, rfl, hsk, hbox, hgr⟩ := hrel
    obtain ⟨c0, c1, c2⟩ := hbox.out.cells
    have f1 := hbox.out.free 1
    have f2 := hbox.out.free 2
    have hlt2 := hbox.out.lt
    by_cases hlt3 : q < s.size
    · by_cases h32 : s[q] = 32
      · have hb : (((s[q].toNat : Nat) : Int) == 32) = true := by rw [h32]; rfl
        have HS : Hid (skipS (s.data.toList.drop (q + 1)) = skipS (s.data.toList.drop (p + t.size))) := (skipS_step (by simpa using hlt3) h32).trans hsk.out
        clear h32
        go_wp2_with fail
        go_quiet (fail)
        go_wp2_with fail
        go_roundg (s.size - (q + 1))
        case measure => omega
        case rel => exact ⟨q + 1, by omega, rfl, HS, (by have := (hbox.out.drewN nq).set1 (q + 1); rw [Int.natCast_add] at this; exact this), only_setCell (only_drewN hgr.out nq) (.inl rfl) _⟩
      · have hb : (((s[q].toNat : Nat) : Int) == 32) = false := by
          rw [beq_eq_false_iff_ne]
          intro e
          exact h32 (UInt8.toNat_inj.1 (by rw [show (32 : UInt8).toNat = 32 from rfl]; omega))
        have HS : Hid (s.data.toList.drop q = skipS (s.data.toList.drop (p + t.size))) := by
          show _ = _
          rw [← hsk.out, skipS_stop]
          intro c hc
          obtain ⟨h1, h2⟩ := List.getElem?_eq_some_iff.1 hc
          rw [← h2]
          exact h32
        have hX : Hid ((s.extract q s.size).data.toList = s.data.toList.drop q) := by
          show _ = _
          rw [extract_drop s q]
        have hFT := firstToken_any (s.extract q s.size) (by rw [extract_size' s q]; omega)
        rw [hX.out] at hFT
        have HFT := hidIt hFT
        clear h32 hFT
        go_wp2_with fail
        go_quiet (fail)
        obtain ⟨W2, hW2⟩ : ∃ W, W = wr.drewN nq := ⟨_, rfl⟩
        have hbox2 : PBox W2 b s q t := by rw [hW2]; exact hbox.out.drewN nq
        have hgr2 : Hid (w.grownBy W2 (some b)) := by show World.grownBy _ _ _; rw [hW2]; exact only_drewN hgr.out nq
        rw [← hW2]
        clear hW2 c0 c1 c2 f1 f2 hlt2 hbox hgr
        obtain ⟨c0, c1, c2⟩ := hbox2.cells
        have f2 := hbox2.free 2
        have hlt2 := hbox2.lt
        have HB2 := hidIt hbox2
        have hsg2 := hidIt (HSG.out.kept hgr2.out (fun e => hb0 (by injection e)))
        clear hbox2
        go_wp2_with fail
        refine wp_region_still_tail 13 (by kernel_rfl) (by kernel_rfl) ?_
        simp only [List.take_succ_cons, List.take_zero, List.drop_succ_cons, List.drop_zero]
        repeat still_step
        still_call (HFT.out _ (hsg2.out.go (Below.refl _ _).drew))
        repeat still_step
        refine wpStill_nil ?_
        go_wp2_with fail
        go_end0
        exact ⟨rfl, q, hq, HS.out, (HB2.out.drewN 1).set2 _, only_setCell (only_drewN hgr2.out 1) (.inl rfl) _⟩
    · have hqs : q = s.size := by omega
      have HS : Hid (s.data.toList.drop q = skipS (s.data.toList.drop (p + t.size))) := by
        show _ = _
        rw [← hsk.out, skipS_stop]
        intro c hc
        obtain ⟨h1, h2⟩ := List.getElem?_eq_some_iff.1 hc
        exact absurd h1 (by simp; omega)
      have hX : Hid ((s.extract q s.size).data.toList = s.data.toList.drop q) := by
        show _ = _
        rw [extract_drop s q]
      have hFT := firstToken_any (s.extract q s.size) (by rw [extract_size' s q]; omega)
      rw [hX.out] at hFT
      have HFT := hidIt hFT
      clear hFT hqs
      go_wp2_with fail
      go_quiet (fail)
      obtain ⟨W2, hW2⟩ : ∃ W, W = wr.drewN nq := ⟨_, rfl⟩
      have hbox2 : PBox W2 b s q t := by rw [hW2]; exact hbox.out.drewN nq
      have hgr2 : Hid (w.grownBy W2 (some b)) := by show World.grownBy _ _ _; rw [hW2]; exact only_drewN hgr.out nq
      rw [← hW2]
      clear hW2 c0 c1 c2 f1 f2 hlt2 hbox hgr
      obtain ⟨c0, c1, c2⟩ := hbox2.cells
      have f2 := hbox2.free 2
      have hlt2 := hbox2.lt
      have HB2 := hidIt hbox2
      have hsg2 := hidIt (HSG.out.kept hgr2.out (fun e => hb0 (by injection e)))
      clear hbox2
      go_wp2_with fail
      refine wp_region_still_tail 13 (by kernel_rfl) (by kernel_rfl) ?_
      simp only [List.take_succ_cons, List.take_zero, List.drop_succ_cons, List.drop_zero]
      repeat still_step
      still_call (HFT.out _ (hsg2.out.go (Below.refl _ _).drew))
      repeat still_step
      refine wpStill_nil ?_
      go_wp2_with fail
      go_end0
      exact ⟨rfl, q, hq, HS.out, (HB2.out.drewN 1).set2 _, only_setCell (only_drewN hgr2.out 1) (.inl rfl) _⟩
end Go.Proofs.YtilkpjcbmllgmaaDoor

namespace Go.Proofs.YtilkpjcbmllgmaaDoor
set_option linter.unusedVariables false
set_option linter.unusedSimpArgs false
open Go.RowKit

/-- The three cells of a formula. -/
structure Hd where
  op : Int
  name : ByteArray
  a : Option Addr
  n : Nat
  c : Nat
def Hd.cells (h : Hd) : List Value := [.int .i64 h.op, .string h.name, .slice h.a h.n h.c]
def Hd.val (h : Hd) : Value := .agg #[.int .i64 h.op, .string h.name, .slice h.a h.n h.c]
def flatF : List Hd → List Value
  | [] => []
  | h :: l => h.cells ++ flatF l

theorem flatF_append : ∀ l m : List Hd, flatF (l ++ m) = flatF l ++ flatF m
  | [], m => rfl
  | h :: l, m => by simp only [List.cons_append, flatF, flatF_append l m, List.append_assoc]
theorem flatF_len : ∀ l : List Hd, (flatF l).length = l.length * 3
  | [] => rfl
  | h :: l => by simp only [flatF, List.length_append, flatF_len l, List.length_cons, Hd.cells, List.length_nil]; omega
theorem flatF_get : ∀ (l : List Hd) (i j : Nat) (hi : i < l.length), j < 3 → (flatF l)[i * 3 + j]? = (l[i]).cells[j]?
  | h :: l, 0, j, _, hj => by
    show (h.cells ++ flatF l)[0 * 3 + j]? = h.cells[j]?
    rw [List.getElem?_append_left (by simp [Hd.cells]; omega)]
    simp
  | h :: l, i + 1, j, hi, hj => by
    show (h.cells ++ flatF l)[(i + 1) * 3 + j]? = (l[i]'(by simpa using hi)).cells[j]?
    rw [List.getElem?_append_right (by simp [Hd.cells]; omega), ← flatF_get l i j (by simpa using hi) hj]
    congr 1
    simp [Hd.cells]
    omega
theorem flatF_one (l : List Hd) : ∀ u ∈ flatF l, u.oneCell' = true := by
  induction l with
  | nil => intro u hu; cases hu
  | cons h l ih =>
    intro u hu
    rcases List.mem_append.1 hu with hu | hu
    · simp only [Hd.cells, List.mem_cons, List.not_mem_nil, or_false] at hu
      rcases hu with rfl | rfl | rfl <;> rfl
    · exact ih u hu

/-- The header of a formula's value. -/
def Tree.hd (t : Tree) (a : Option Addr) (c : Nat) : Hd := ⟨t.op, t.name, a, t.args.length, c⟩

theorem FormIn.hd {w : World} {S : Nat → Prop} {v : Value} {t : Tree} (h : FormIn w S v t) : ∃ a c, v = (t.hd a c).val := by
  obtain ⟨a, cap, b, off, rfl, -⟩ := h.form
  exact ⟨a, cap, rfl⟩

/-- A row of formulas makes the arguments of one. -/
theorem FormIn.mk {w : World} {S : Nat → Prop} {op : Int} {name : ByteArray} {a : Option Addr} {n cap : Nat} {ts : List Tree} (h : FormsIn w S a ts) (hn : n = ts.length) (hop : I64 op) (hname : name.size ≤ maxLen) (hlen : ts.length ≤ cap) (hcap : cap ≤ maxLen) :
    FormIn w S (.agg #[.int .i64 op, .string name, .slice a n cap]) (.node op name ts) := by
  subst hn
  obtain ⟨b, off, ha, hc⟩ := h
  have hc' : ∀ i, ∃ v : Value, ∀ h : i < ts.length, w.cell? ⟨b, off + i * 3, none⟩ = some (.int .i64 ts[i].op) ∧ w.cell? ⟨b, off + i * 3 + 1, none⟩ = some (.string ts[i].name) ∧ w.cell? ⟨b, off + i * 3 + 2, none⟩ = some v ∧ FormIn w S (.agg #[.int .i64 ts[i].op, .string ts[i].name, v]) ts[i] := by
    intro i
    by_cases h : i < ts.length
    · obtain ⟨a', c', h0, h1, h2, h3⟩ := hc i h
      exact ⟨_, fun _ => ⟨h0, h1, h2, h3⟩⟩
    · exact ⟨.nilFunc, fun h' => absurd h' h⟩
  refine .node op name a cap ts b off (fun i => if h : i < ts.length then ts[i].op else 0) (fun i => if h : i < ts.length then ts[i].name else ⟨#[]⟩) (fun i => Classical.choose (hc' i)) hop hname hlen hcap ha (fun i hi => ?_) (fun i hi => ?_)
  · obtain ⟨h0, h1, h2, h3⟩ := Classical.choose_spec (hc' i) hi
    rw [dif_pos hi, dif_pos hi]
    exact ⟨h0, h1, h2⟩
  · obtain ⟨h0, h1, h2, h3⟩ := Classical.choose_spec (hc' i) hi
    rw [dif_pos hi, dif_pos hi]
    exact h3

theorem FormsIn.nil {w : World} {S : Nat → Prop} (a : Option Addr) : FormsIn w S a [] := ⟨0, 0, fun h => by simp at h, fun i h => by simp at h⟩

/-- A row of cells that are headers. -/
theorem FormsIn.of_cells {w : World} {S : Nat → Prop} {nb off : Nat} (hs : List (Option Addr × Nat)) (ts : List Tree) (hlen : hs.length = ts.length) (hne : S nb)
    (hcell : ∀ j u, (flatF (List.zipWith (fun t x => t.hd x.1 x.2) ts hs))[j]? = some u → w.cell? ⟨nb, off + j, none⟩ = some u)
    (hf : ∀ i (h : i < ts.length) (h' : i < hs.length), FormIn w S (ts[i].hd hs[i].1 hs[i].2).val ts[i]) : FormsIn w S (some ⟨nb, off, none⟩) ts := by
  refine ⟨nb, off, fun _ => ⟨rfl, hne⟩, fun i hi => ?_⟩
  have hi' : i < hs.length := by omega
  have hz : i < (List.zipWith (fun t (x : Option Addr × Nat) => t.hd x.1 x.2) ts hs).length := by rw [List.length_zipWith]; omega
  have g : ∀ j, j < 3 → (flatF (List.zipWith (fun t x => t.hd x.1 x.2) ts hs))[i * 3 + j]? = (ts[i].hd hs[i].1 hs[i].2).cells[j]? := fun j hj => by
    rw [flatF_get _ i j hz hj, List.getElem_zipWith]
  have g0 := hcell _ _ (g 0 (by omega))
  have g1 := hcell _ _ (g 1 (by omega))
  have g2 := hcell _ _ (g 2 (by omega))
  exact ⟨_, _, g0, g1, g2, hf i hi hi'⟩

theorem FormsIn.one {w : World} {S : Nat → Prop} {nb : Nat} {o : Int} {s : ByteArray} {a : Option Addr} {n c : Nat} {ty : TypeId} {t : Tree} (hk : w.heap[nb]? = some (.cells #[.int .i64 o, .string s, .slice a n c] ty (0, 0))) (hS : S nb) (hf : FormIn w S (.agg #[.int .i64 o, .string s, .slice a n c]) t) : FormsIn w S (some ⟨nb, 0, none⟩) [t] := by
  obtain ⟨rfl, rfl, rfl⟩ := hf.shape
  obtain ⟨c0, c1, c2⟩ := cell_of3 hk
  refine ⟨nb, 0, fun _ => ⟨rfl, hS⟩, fun i hi => ?_⟩
  obtain rfl : i = 0 := by simp at hi; exact hi
  exact ⟨a, c, c0, c1, c2, hf⟩
theorem FormsIn.two {w : World} {S : Nat → Prop} {nb : Nat} {o o' : Int} {s s' : ByteArray} {a a' : Option Addr} {n c n' c' : Nat} {ty : TypeId} {t u : Tree} (hk : w.heap[nb]? = some (.cells #[.int .i64 o, .string s, .slice a n c, .int .i64 o', .string s', .slice a' n' c'] ty (0, 0))) (hS : S nb)
    (hf : FormIn w S (.agg #[.int .i64 o, .string s, .slice a n c]) t) (hg : FormIn w S (.agg #[.int .i64 o', .string s', .slice a' n' c']) u) : FormsIn w S (some ⟨nb, 0, none⟩) [t, u] := by
  obtain ⟨rfl, rfl, rfl⟩ := hf.shape
  obtain ⟨rfl, rfl, rfl⟩ := hg.shape
  refine ⟨nb, 0, fun _ => ⟨rfl, hS⟩, fun i hi => ?_⟩
  have h2 : i = 0 ∨ i = 1 := by simp at hi; omega
  rcases h2 with rfl | rfl
  · exact ⟨a, c, by simp [World.cell?, hk], by simp [World.cell?, hk], by simp [World.cell?, hk], hf⟩
  · exact ⟨a', c', by simp [World.cell?, hk], by simp [World.cell?, hk], by simp [World.cell?, hk], hg⟩
end Go.Proofs.YtilkpjcbmllgmaaDoor

namespace Go.Proofs.YtilkpjcbmllgmaaDoor
set_option linter.unusedVariables false
set_option linter.unusedSimpArgs false
open Go.RowKit

abbrev Rest := List UInt8

def pairP (op : Int) (sign : Rest) (left right : Rest → Option Tree × Rest) (r : Rest) : Option Tree × Rest :=
  match left r with
  | (some f, r1) =>
    if tok r1 = sign then
      match right (nxt r1) with
      | (some g, r2) => (some (.node op ⟨#[]⟩ [f, g]), r2)
      | (none, r2) => (none, r2)
    else (some f, r1)
  | (none, r1) => (none, r1)

def rowLoop (sign : Rest) (part : Rest → Option Tree × Rest) : Nat → List Tree → Rest → Option (List Tree) × Rest
  | 0, _, r => (none, r)
  | n + 1, l, r =>
    if tok r = sign then
      match part (nxt r) with
      | (some f, r1) => rowLoop sign part n (l ++ [f]) r1
      | (none, r1) => (none, r1)
    else (some l, r)

def rowP (op : Int) (sign : Rest) (part : Rest → Option Tree × Rest) (r : Rest) : Option Tree × Rest :=
  match part r with
  | (some f, r1) =>
    if tok r1 = sign then
      match rowLoop sign part (r1.length + 1) [f] r1 with
      | (some l, r2) => (some (.node op ⟨#[]⟩ l), r2)
      | (none, r2) => (none, r2)
    else (some f, r1)
  | (none, r1) => (none, r1)

/-- A negation of what was read. -/
def notP : Option Tree × Rest → Option Tree × Rest
  | (some f, r) => (some (.node 4 ⟨#[]⟩ [f]), r)
  | (none, r) => (none, r)
/-- The closing parenthesis. -/
def closeP : Option Tree × Rest → Option Tree × Rest
  | (some f, r) => if tok r = [41] then (some f, nxt r) else (none, r)
  | (none, r) => (none, r)

/-- The parser's functions by their rank: 0 equivalence, 1 implication, 2 disjunction, 3 conjunction, 4 negation, 5 primary, 6 group; n bounds the calls. -/
def pF : Nat → Nat → Rest → Option Tree × Rest
  | 0, _, r => (none, r)
  | n + 1, 0, r => pairP 8 [60, 45, 62] (pF n 1) (pF n 1) r
  | n + 1, 1, r => pairP 7 [45, 62] (pF n 2) (pF n 1) r
  | n + 1, 2, r => rowP 6 [124] (pF n 3) r
  | n + 1, 3, r => rowP 5 [38] (pF n 4) r
  | n + 1, 4, r =>
    if tok r = [126] then notP (pF n 4 (nxt r)) else pF n 5 r
  | n + 1, 5, r =>
    if tok r = [40] then pF n 6 r
    else if tok r = [48] then (some (.node 2 ⟨#[]⟩ []), nxt r)
    else if tok r = [49] then (some (.node 1 ⟨#[]⟩ []), nxt r)
    else if vn ⟨(tok r).toArray⟩ then (some (.node 3 ⟨(tok r).toArray⟩ []), nxt r)
    else (none, r)
  | n + 1, _, r => closeP (pF n 0 (nxt r))

theorem pF4 (n : Nat) (r : Rest) : pF (n + 1) 4 r = if tok r = [126] then notP (pF n 4 (nxt r)) else pF n 5 r := rfl
theorem pF5 (n : Nat) (r : Rest) : pF (n + 1) 5 r = if tok r = [40] then pF n 6 r
    else if tok r = [48] then (some (.node 2 ⟨#[]⟩ []), nxt r)
    else if tok r = [49] then (some (.node 1 ⟨#[]⟩ []), nxt r)
    else if vn ⟨(tok r).toArray⟩ then (some (.node 3 ⟨(tok r).toArray⟩ []), nxt r)
    else (none, r) := rfl
theorem pF6 (n k : Nat) (r : Rest) : pF (n + 1) (k + 6) r = closeP (pF n 0 (nxt r)) := rfl

theorem size_data (s : ByteArray) : s.data.toList.length = s.size := by rw [Array.length_toList]; rfl

theorem prefix_len {p l : List UInt8} (h : p.isPrefixOf l = true) : p.length ≤ l.length := (List.isPrefixOf_iff_prefix.1 h).length_le
theorem tok_len (l : List UInt8) : (tok l).length ≤ l.length := by
  unfold tok
  cases h : sgn.find? (fun p => p.isPrefixOf l) with
  | some p =>
    have hp := List.find?_some (p := fun p : List UInt8 => p.isPrefixOf l) h
    exact prefix_len hp
  | none =>
    show (wordTok l).length ≤ l.length
    simp only [wordTok]
    split
    · exact (List.takeWhile_prefix inW).length_le
    · simp
theorem skipS_len (l : List UInt8) : (skipS l).length ≤ l.length := by
  obtain ⟨k, hk⟩ := List.dropWhile_suffix (l := l) (fun c : UInt8 => c == 32)
  have := congrArg List.length hk
  rw [List.length_append] at this
  show (l.dropWhile _).length ≤ _
  omega
theorem nxt_len (l : List UInt8) : (nxt l).length + (tok l).length ≤ l.length := by
  have h1 := skipS_len (l.drop (tok l).length)
  have h2 := tok_len l
  rw [List.length_drop] at h1
  unfold nxt
  omega
theorem nxt_lt {l : List UInt8} {sign : Rest} (hs : 0 < sign.length) (h : tok l = sign) : (nxt l).length < l.length := by
  have := nxt_len l
  rw [h] at this
  omega

/-- A function that leaves no more than it got. -/
def Shrinks (f : Rest → Option Tree × Rest) : Prop := ∀ r, (f r).2.length ≤ r.length

theorem pairP_len {op : Int} {sign : Rest} {left right : Rest → Option Tree × Rest} (hl : Shrinks left) (hr : Shrinks right) : Shrinks (pairP op sign left right) := by
  intro r
  have h1 := hl r
  unfold pairP
  cases hL : left r with
  | mk o r1 =>
    rw [hL] at h1
    simp only at h1
    cases o with
    | none => exact h1
    | some f =>
      simp only
      split
      · have h2 := hr (nxt r1)
        have h3 := nxt_len r1
        cases hR : right (nxt r1) with
        | mk o2 r2 =>
          rw [hR] at h2
          simp only at h2
          cases o2 <;> simp only <;> omega
      · exact h1
theorem rowLoop_len {sign : Rest} {part : Rest → Option Tree × Rest} (hp : Shrinks part) : ∀ (n : Nat) (l : List Tree) (r : Rest), (rowLoop sign part n l r).2.length ≤ r.length
  | 0, l, r => Nat.le_refl _
  | n + 1, l, r => by
    unfold rowLoop
    split
    · have h2 := hp (nxt r)
      have h3 := nxt_len r
      cases hR : part (nxt r) with
      | mk o2 r2 =>
        rw [hR] at h2
        simp only at h2
        cases o2 with
        | none => simp only; omega
        | some f => have := rowLoop_len (sign := sign) hp n (l ++ [f]) r2; simp only; omega
    · exact Nat.le_refl _
theorem rowP_len {op : Int} {sign : Rest} {part : Rest → Option Tree × Rest} (hp : Shrinks part) : Shrinks (rowP op sign part) := by
  intro r
  have h1 := hp r
  unfold rowP
  cases hL : part r with
  | mk o r1 =>
    rw [hL] at h1
    simp only at h1
    cases o with
    | none => exact h1
    | some f =>
      simp only
      split
      · have h2 := rowLoop_len (sign := sign) hp (r1.length + 1) [f] r1
        cases hR : rowLoop sign part (r1.length + 1) [f] r1 with
        | mk o2 r2 =>
          rw [hR] at h2
          simp only at h2
          cases o2 <;> simp only <;> omega
      · exact h1
theorem pF_len : ∀ (n k : Nat), Shrinks (pF n k) := by
  intro n
  induction n with
  | zero => intro k r; exact Nat.le_refl _
  | succ n ih =>
    intro k
    match k with
    | 0 => exact pairP_len (ih 1) (ih 1)
    | 1 => exact pairP_len (ih 2) (ih 1)
    | 2 => exact rowP_len (ih 3)
    | 3 => exact rowP_len (ih 4)
    | 4 =>
      intro r
      rw [pF4]
      split
      · have h2 := ih 4 (nxt r)
        have h3 := nxt_len r
        cases hR : pF n 4 (nxt r) with
        | mk o2 r2 =>
          rw [hR] at h2
          simp only at h2
          cases o2 <;> simp only [notP] <;> omega
      · exact ih 5 r
    | 5 =>
      intro r
      have h3 := nxt_len r
      rw [pF5]
      split
      · exact ih 6 r
      split
      · simp only; omega
      split
      · simp only; omega
      split
      · simp only; omega
      · exact Nat.le_refl _
    | k + 6 =>
      intro r
      have h2 := ih 0 (nxt r)
      have h3 := nxt_len r
      rw [pF6]
      cases hR : pF n 0 (nxt r) with
      | mk o2 r2 =>
        rw [hR] at h2
        simp only at h2
        cases o2 with
        | none => simp only [closeP]; omega
        | some f =>
          have h4 := nxt_len r2
          simp only [closeP]
          split <;> simp only <;> omega

/-- The parser stands at this rest of its text. -/
structure PAt (w : World) (b : Nat) (s : ByteArray) (r : Rest) : Prop where
  ex : ∃ p : Nat, p ≤ s.size ∧ r = s.data.toList.drop p ∧ PBox w b s p ⟨(tok r).toArray⟩
  signs : SignsAt w
  hb0 : b ≠ 0
  hs : s.size ≤ 4096
section
variable {w w' : World} {b : Nat} {s : ByteArray} {r : Rest}
theorem PAt.lt (h : PAt w b s r) : b < w.heap.size := by obtain ⟨p, _, _, hp⟩ := h.ex; exact hp.lt
theorem PAt.go (h : PAt w b s r) (hb : Below w.heap.size w w') : PAt w' b s r := by
  obtain ⟨p, h1, h2, h3⟩ := h.ex
  exact ⟨⟨p, h1, h2, blk_kept h3 hb⟩, h.signs.go hb, h.hb0, h.hs⟩
theorem PAt.kept {row : Option Nat} (h : PAt w b s r) (hg : w.grownBy w' row) (hr : row ≠ some b) (h0 : row ≠ some 0) : PAt w' b s r := by
  obtain ⟨p, h1, h2, h3⟩ := h.ex
  exact ⟨⟨p, h1, h2, by unfold PBox; rw [hg.block b h3.lt (fun e => hr e.symm)]; exact h3⟩, h.signs.kept hg h0, h.hb0, h.hs⟩
theorem PAt.alloc (h : PAt w b s r) (o : Obj) : PAt (w.alloc o) b s r := h.go ((Below.refl _ _).alloc (Nat.le_refl _) o)
theorem PAt.cells (h : PAt w b s r) : w.cell? ⟨b, 0, none⟩ = some (.string s) ∧ w.cell? ⟨b, 2, none⟩ = some (.string ⟨(tok r).toArray⟩) := by
  obtain ⟨p, _, _, hp⟩ := h.ex
  exact ⟨hp.cells.1, hp.cells.2.2⟩
theorem PAt.len (h : PAt w b s r) : r.length ≤ 4096 := by
  obtain ⟨p, _, rfl, hp⟩ := h.ex
  have := h.hs
  rw [List.length_drop]
  have e := size_data s
  omega

theorem next_at (h : PAt w b s r) : Calls Tryd.prog 40 #[.pointer (some ⟨b, 0, none⟩)] w fun e w' => e = .returned (.tuple #[]) ∧ PAt w' b s (nxt r) ∧ w.grownBy w' (some b) := by
  obtain ⟨p, h1, h2, h3⟩ := h.ex
  have hl : (tok r).length ≤ r.length := tok_len r
  have e := size_data s
  have hr : r.length = s.size - p := by rw [h2, List.length_drop, e]
  have hz := h.hs
  refine (next_any s (by omega) p ⟨(tok r).toArray⟩ (by rw [mk_size]; omega) b h.hb0 w h3 h.signs).mono ?_
  rintro e' w' ⟨he, q, hq, hd, hbox, hg⟩
  have hn : s.data.toList.drop q = nxt r := by
    rw [hd, mk_size, nxt, h2, List.drop_drop, ← h2]
  rw [hn] at hbox
  exact ⟨he, ⟨⟨q, hq, hn.symm, hbox⟩, h.signs.kept hg (fun e => h.hb0 (by injection e)), h.hb0, h.hs⟩, hg⟩
end
end Go.Proofs.YtilkpjcbmllgmaaDoor

namespace Go.Proofs.YtilkpjcbmllgmaaDoor
set_option linter.unusedVariables false
set_option linter.unusedSimpArgs false
open Go Go.RowKit

def rtk (r : Rest) : Rest := if r = [] then [] else if tok r = [] then [63] else tok r

theorem sgn_heads : ∀ p ∈ sgn, ∃ x t, p = x :: t ∧ inW x = false := by
  intro p hp
  simp only [sgn, List.mem_cons, List.not_mem_nil, or_false] at hp
  rcases hp with rfl | rfl | rfl | rfl | rfl | rfl | rfl
  all_goals exact ⟨_, _, rfl, by decide⟩

theorem no_sign {c : UInt8} {r : Rest} (hc : inW c = true) (j : Nat) (hj : j < 7) : (sgn.getD j []).isPrefixOf (c :: r) = false := by
  obtain ⟨x, t, e, hx⟩ := sgn_heads (sgn.getD j []) (by
    rw [List.getD_eq_getElem?_getD, List.getElem?_eq_getElem (show j < sgn.length from hj), Option.getD_some]
    exact List.getElem_mem _)
  rw [e]
  have hne : (x == c) = false := by
    rw [beq_eq_false_iff_ne]
    rintro rfl
    rw [hx] at hc
    cases hc
  simp [List.isPrefixOf, hne]

/-- Where a word begins. -/
theorem rtk_word {r : Rest} (hu : r.takeWhile inW ≠ []) : rtk r = if r.takeWhile inW = [48] ∨ r.takeWhile inW = [49] ∨ vn ⟨(r.takeWhile inW).toArray⟩ = true then r.takeWhile inW else [63] := by
  cases r with
  | nil => exact absurd rfl hu
  | cons c r =>
    have hc : inW c = true := by
      cases h : inW c
      · rw [List.takeWhile_cons, h] at hu
        exact absurd rfl hu
      · rfl
    have ht : tok (c :: r) = wordTok (c :: r) := tok_word fun j hj => no_sign hc j hj
    unfold rtk
    rw [if_neg (by simp), ht]
    simp only [wordTok]
    split
    · first | rfl | rw [if_neg hu]
    · first | rfl | rw [if_pos rfl]

/-- Where no word begins. -/
theorem wordTok_nil {c : UInt8} {r : Rest} (hc : inW c = false) : wordTok (c :: r) = [] := by
  simp only [wordTok, List.takeWhile_cons, hc, Bool.false_eq_true, if_false]
  split
  · rename_i h
    rcases h with h | h | h
    · cases h
    · cases h
    · exact absurd h (by decide)
  · rfl

/-- The signs in the reference's order. -/
def rsgn : List Rest := [[126], [38], [124], [45, 62], [60, 45, 62], [40], [41]]

theorem rtk_sign {r p : Rest} (hp : p ∈ rsgn) (h : p.isPrefixOf r = true) : rtk r = p := by
  have key : tok r = p := by
    simp only [rsgn, List.mem_cons, List.not_mem_nil, or_false] at hp
    rcases hp with rfl | rfl | rfl | rfl | rfl | rfl | rfl
    all_goals
      obtain ⟨t, rfl⟩ := List.isPrefixOf_iff_prefix.1 h
      simp [tok, sgn, List.isPrefixOf]
  have hne : p ≠ [] := by
    rintro rfl
    simp [rsgn] at hp
  unfold rtk
  rw [key, if_neg hne, if_neg]
  rintro rfl
  rw [List.isPrefixOf_iff_prefix] at h
  exact hne (List.prefix_nil.1 h)

theorem rtk_none {c : UInt8} {r : Rest} (hc : inW c = false) (h : ∀ p ∈ rsgn, p.isPrefixOf (c :: r) = false) : rtk (c :: r) = [63] := by
  have ht : tok (c :: r) = wordTok (c :: r) := tok_word fun j hj => by
    have hm : sgn.getD j [] ∈ rsgn := by
      rcases (by omega : j = 0 ∨ j = 1 ∨ j = 2 ∨ j = 3 ∨ j = 4 ∨ j = 5 ∨ j = 6) with rfl | rfl | rfl | rfl | rfl | rfl | rfl
      all_goals simp [sgn, rsgn]
    exact h _ hm
  unfold rtk
  rw [if_neg (by simp), ht, wordTok_nil hc, if_pos rfl]

/-- Is the token that one? -/
theorem rtk_eq {r p : Rest} (hp : p ≠ []) (hq : p ≠ [63]) : rtk r = p ↔ tok r = p := by
  unfold rtk
  split
  · rename_i h
    subst h
    constructor
    · intro h; exact absurd h.symm hp
    · intro h
      have : tok [] = [] := by
        have := tok_len []
        exact List.eq_nil_of_length_eq_zero (by simpa using this)
      rw [this] at h
      exact absurd h.symm hp
  · split
    · rename_i h
      rw [h]
      exact ⟨fun h => absurd h.symm hq, fun h => absurd h.symm hp⟩
    · rfl
theorem rtk_len (r : Rest) (h : rtk r ≠ [63]) : rtk r = tok r ∨ (r = [] ∧ rtk r = []) := by
  unfold rtk at *
  split
  · rename_i e
    exact .inr ⟨e, rfl⟩
  · rename_i e
    rw [if_neg e] at h
    split
    · rename_i e2
      rw [if_pos e2] at h
      exact absurd rfl h
    · exact .inl rfl
end Go.Proofs.YtilkpjcbmllgmaaDoor

namespace Go.Proofs.YtilkpjcbmllgmaaDoor
set_option linter.unusedVariables false
set_option linter.unusedSimpArgs false
open Go.RowKit

theorem okUpto_first (s : ByteArray) (h : 0 < s.size) (hf : fitsB (s[0].toNat : Int) 0 = false) : okUpto s.data.toList s.size = false := by
  refine okUpto_false _ 1 _ (by omega) ?_
  show (okUpto s.data.toList 0 && fitsB ((s.data.toList.getD 0 0).toNat : Int) ((0 : Nat) : Int)) = false
  rw [getD_at s 0 h]
  simpa [okUpto] using hf

set_option maxHeartbeats 1000000 in
theorem rValidName_any (s : ByteArray) (w : World) (hs : s.size ≤ maxLen) :
    Calls Tryd.prog 57 #[.string s] w fun e w' => e = .returned (.bool (vn s)) ∧ w = w' := by
  unfold maxLen at hs
  by_cases h0 : s.size = 0
  · have HV : Hid (vn s = false) := by show vn s = _; simp [vn, h0]
    have h0' : (s.size : Int) < 1 := by omega
    go_enter Tryd.func57, Tryd.ntmps57
    go_wp2
    go_ret
    exact ⟨ret_bool HV.out.symm, rfl⟩
  by_cases h1 : 12 < s.size
  · have HV : Hid (vn s = false) := by show vn s = _; simp [vn]; omega
    have h1' : (12 : Int) < s.size := by omega
    go_enter Tryd.func57, Tryd.ntmps57
    go_wp2
    go_ret
    exact ⟨ret_bool HV.out.symm, rfl⟩
  have hpos : 0 < s.size := by omega
  have hle : s.size ≤ 12 := by omega
  have HV : Hid (vn s = okUpto s.data.toList s.size) := by show vn s = _; simp [vn, hpos, hle]
  have hb : (s[0].toNat : Int) ≤ 255 := by have := s[0].toNat_lt; omega
  by_cases ha : (s[0].toNat : Int) < 97
  · have HF : Hid (vn s = false) := by
      show vn s = _
      rw [HV.out]; exact okUpto_first s hpos (by simp [fitsB]; omega)
    go_enter Tryd.func57, Tryd.ntmps57
    go_wp2
    go_ret
    exact ⟨ret_bool HF.out.symm, rfl⟩
  by_cases hz : (122 : Int) < (s[0].toNat : Int)
  · have HF : Hid (vn s = false) := by
      show vn s = _
      rw [HV.out]; exact okUpto_first s hpos (by simp [fitsB]; omega)
    go_enter Tryd.func57, Tryd.ntmps57
    go_wp2
    go_ret
    exact ⟨ret_bool HF.out.symm, rfl⟩
  have H0 : Hid (97 ≤ (s[0].toNat : Int) ∧ (s[0].toNat : Int) ≤ 122) := ⟨by omega, by omega⟩
  go_enter Tryd.func57, Tryd.ntmps57
  go_wp2
  go_loop [3] (fun i => ∃ k : Nat, k ≤ s.size ∧ i = .int .i64 k ∧ Hid (okUpto s.data.toList k = true)) (fun i => s.size - (intOf i).toNat)
  case atStart => exact ⟨0, Nat.zero_le _, rfl, rfl⟩
  case round =>
    clear ha hz hb
    obtain ⟨k, hk, rfl, hok⟩ := hrel
    by_cases hlt : k < s.size
    · have hbk : (s[k].toNat : Int) ≤ 255 := by have := s[k].toNat_lt; omega
      have hk0 : Hid (k = 0 → 97 ≤ (s[k].toNat : Int) ∧ (s[k].toNat : Int) ≤ 122) := fun e => by subst e; exact H0.out
      have hstep : Hid (okUpto s.data.toList (k + 1) = fitsB (s[k].toNat : Int) (k : Int)) := by
        show _ = _
        rw [okUpto, hok.out, getD_at s k hlt, Bool.true_and]
      obtain ⟨c, hc⟩ : ∃ c : Int, (s[k].toNat : Int) = c := ⟨_, rfl⟩
      have HC := hidIt hc
      have good : Hid (fitsB c (k : Int) = true → okUpto s.data.toList (k + 1) = true) := fun h => by rw [hstep.out, HC.out]; exact h
      have bad : Hid (fitsB c (k : Int) = false → vn s = false) := fun h => by
        rw [HV.out]; exact okUpto_false _ (k + 1) _ (by omega) (by rw [hstep.out, HC.out]; exact h)
      rw [hc] at hbk hk0
      have hc0 : 0 ≤ c := by omega
      clear hc
      by_cases a1 : (s[k].toNat : Int) < 97
      · by_cases a2 : (s[k].toNat : Int) < 48
        · go_wp2
          go_ret
          exact ⟨ret_bool (bad.out (by have := HC.out; simp [fitsB]; omega)).symm, rfl⟩
        · by_cases a3 : (57 : Int) < (s[k].toNat : Int)
          · by_cases a4 : (s[k].toNat : Int) = 95
            · have a4' : ((s[k].toNat : Int) != 95) = false := by rw [a4]; rfl
              have A4 := hidIt a4
              clear a4
              go_wp2
              go_round
              case rel => exact ⟨k + 1, by omega, by go_num, good.out (by have := HC.out; have := A4.out; have := hk0.out; simp [fitsB]; omega)⟩
              case measure => simp [intOf]; omega
            · have a4' : ((s[k].toNat : Int) != 95) = true := by simp only [bne_iff_ne, ne_eq]; exact a4
              go_wp2
              go_ret
              exact ⟨ret_bool (bad.out (by have := HC.out; simp [fitsB]; omega)).symm, rfl⟩
          · go_wp2
            go_round
            case rel => exact ⟨k + 1, by omega, by go_num, good.out (by have := HC.out; have := hk0.out; simp [fitsB]; omega)⟩
            case measure => simp [intOf]; omega
      · by_cases a2 : (122 : Int) < (s[k].toNat : Int)
        · have a4' : ((s[k].toNat : Int) != 95) = true := by simp only [bne_iff_ne, ne_eq]; omega
          go_wp2
          go_ret
          exact ⟨ret_bool (bad.out (by have := HC.out; simp [fitsB]; omega)).symm, rfl⟩
        · go_wp2
          go_round
          case rel => exact ⟨k + 1, by omega, by go_num, good.out (by have := HC.out; simp [fitsB]; omega)⟩
          case measure => simp [intOf]; omega
    · go_wp2
      go_ret
      exact ⟨ret_bool (by rw [HV.out]; obtain rfl : k = s.size := by omega
                          exact hok.out.symm), rfl⟩
end Go.Proofs.YtilkpjcbmllgmaaDoor

namespace Go.Proofs.YtilkpjcbmllgmaaDoor
set_option linter.unusedVariables false
set_option linter.unusedSimpArgs false
open Go Go.RowKit

/-- The reader's three cells. -/
def QBox (w : World) (b : Nat) (s : ByteArray) (p : Nat) (bad : Int) : Prop := w.heap[b]? = some (.cells #[.string s, .int .i64 (p : Int), .int .i64 bad] 64 (0, 0))
section
variable {w w' : World} {b : Nat} {s : ByteArray} {p : Nat} {bad : Int}
theorem QBox.cells (h : QBox w b s p bad) : w.cell? ⟨b, 0, none⟩ = some (.string s) ∧ w.cell? ⟨b, 1, none⟩ = some (.int .i64 (p : Int)) ∧ w.cell? ⟨b, 2, none⟩ = some (.int .i64 bad) := cell_of3 h
theorem QBox.free (h : QBox w b s p bad) (k : Nat) : w.frozen? ⟨b, k, none⟩ = false := free_any h k
theorem QBox.lt (h : QBox w b s p bad) : b < w.heap.size := lt_of_block h
theorem QBox.go (h : QBox w b s p bad) (hb : Below w.heap.size w w') : QBox w' b s p bad := blk_kept h hb
theorem QBox.set1 (h : QBox w b s p bad) (q : Nat) : QBox (w.setCell ⟨b, 1, none⟩ (.int .i64 (q : Int))) b s q bad := setCell_heap_self h _
theorem QBox.set2 (h : QBox w b s p bad) (x : Int) : QBox (w.setCell ⟨b, 2, none⟩ (.int .i64 x)) b s p x := setCell_heap_self h _
end

/-- Does a byte belong to a name? -/
def lowI (c : Int) : Bool := decide (97 ≤ c ∧ c ≤ 122) || (decide (48 ≤ c ∧ c ≤ 57) || decide (c = 95))
theorem inWI_low (c : Int) : inWI c = (lowI c || decide (65 ≤ c ∧ c ≤ 90)) := by
  unfold inWI lowI
  grind

set_option maxHeartbeats 400000 in
theorem qword_any (c : Int) (hc : 0 ≤ c) (hc' : c ≤ 255) (w : World) :
    Calls Tryd.prog 63 #[.int .u8 c] w fun e w' => e = .returned (.bool (lowI c)) ∧ w = w' := by
  go_enter Tryd.func63, Tryd.ntmps63
  go_wp2
  all_goals (go_ret; refine ⟨ret_bool ?_, rfl⟩; grind [lowI])

/-- The row of the reader's signs. -/
theorem rsgn_cells {w : World} {nb : Nat} {ty : TypeId} (h : w.heap[nb]? = some (.cells #[.string ⟨#[126]⟩, .string ⟨#[38]⟩, .string ⟨#[124]⟩, .string ⟨#[45, 62]⟩, .string ⟨#[60, 45, 62]⟩, .string ⟨#[40]⟩, .string ⟨#[41]⟩] ty (0, 0))) (k : Nat) (hk : k < 7) :
    w.cell? ⟨nb, k, none⟩ = some (.string ⟨(rsgn.getD k []).toArray⟩) := by
  rcases (by omega : k = 0 ∨ k = 1 ∨ k = 2 ∨ k = 3 ∨ k = 4 ∨ k = 5 ∨ k = 6) with rfl | rfl | rfl | rfl | rfl | rfl | rfl
  all_goals simp [World.cell?, h, rsgn]
theorem rsgn_getD {k : Nat} (hk : k < 7) : rsgn.getD k [] ∈ rsgn ∧ (rsgn.getD k []).length ≤ 3 := by
  rcases (by omega : k = 0 ∨ k = 1 ∨ k = 2 ∨ k = 3 ∨ k = 4 ∨ k = 5 ∨ k = 6) with rfl | rfl | rfl | rfl | rfl | rfl | rfl
  all_goals simp [rsgn]
theorem rsgn_all {r : Rest} (h : ∀ j, j < 7 → (rsgn.getD j []).isPrefixOf r = false) : ∀ p ∈ rsgn, p.isPrefixOf r = false := by
  intro p hp
  obtain ⟨j, hj, rfl⟩ := List.mem_iff_getElem.1 hp
  have := h j hj
  rwa [List.getD_eq_getElem?_getD, List.getElem?_eq_getElem hj, Option.getD_some] at this

theorem extract_mid (s : ByteArray) (i j : Nat) : (s.extract i j).toList = (s.data.toList.drop i).take (j - i) := by
  rw [Lib.toList_data]
  obtain ⟨⟨l⟩⟩ := s
  rw [ByteArray.data_extract]
  show ((l.toArray).extract i j).toList = _
  rw [List.extract_toArray, List.extract_eq_take_drop]
theorem prefix_take {g l : Rest} : g.isPrefixOf l = true ↔ g.length ≤ l.length ∧ l.take g.length = g := by
  rw [List.isPrefixOf_iff_prefix]
  constructor
  · intro h
    exact ⟨h.length_le, (List.prefix_iff_eq_take.1 h).symm⟩
  · rintro ⟨-, h⟩
    exact List.prefix_iff_eq_take.2 h.symm

theorem inW_get {s : ByteArray} {k : Nat} (h : k < s.size) : s.data.toList[k]? = some s[k] := by
  rw [Array.getElem?_toList]
  exact Array.getElem?_eq_getElem h
theorem drop_cons_at (s : ByteArray) (q : Nat) (h : q < s.size) : s.data.toList.drop q = s[q] :: s.data.toList.drop (q + 1) := by
  rw [List.drop_eq_getElem_cons (by simpa using h)]
  rfl

set_option maxRecDepth 100000 in
set_option maxHeartbeats 2000000 in
theorem qtoken_any (s : ByteArray) (hs : s.size ≤ 1000000) (p : Nat) (hp : p ≤ s.size) (bad : Int) (b : Nat) (w : World) (h : QBox w b s p bad) :
    Calls Tryd.prog 43 #[.pointer (some ⟨b, 0, none⟩)] w fun e w' => ∃ i : Nat, e = .returned (.tuple #[.string ⟨(rtk (s.data.toList.drop i)).toArray⟩, .int .i64 (i : Int)]) ∧ i ≤ s.size ∧ s.data.toList.drop i = skipS (s.data.toList.drop p) ∧ Below w.heap.size w w' := by
  obtain ⟨c0, c1, c2⟩ := h.cells
  have hlt := h.lt
  have H := hidIt h
  clear h
  go_enter Tryd.func43, Tryd.ntmps43
  go_wp2_with fail
  go_loop [4] (fun i => ∃ q : Nat, q ≤ s.size ∧ i = .int .i64 q ∧ Hid (skipS (s.data.toList.drop q) = skipS (s.data.toList.drop p))) (fun i => s.size - (intOf i).toNat)
  case atStart => exact ⟨p, hp, rfl, rfl⟩
  case round =>
    obtain ⟨q, hq, rfl, hsk⟩ := hrel
    have hq0 : (0 : Int) ≤ (q : Int) := by omega
    by_cases hlt3 : q < s.size
    case neg =>
      obtain rfl : q = s.size := by omega
      have HR : Hid (s.data.toList.drop s.size = []) := List.drop_eq_nil_of_le (by simp)
      have HS : Hid (s.data.toList.drop s.size = skipS (s.data.toList.drop p)) := by
        show _ = _
        rw [← hsk.out, HR.out]
        rfl
      go_wp2_with fail
      go_ret2
      exact ⟨s.size, by rw [HR.out]; rfl, Nat.le_refl _, HS.out, Below.refl _ _⟩
    case pos =>
    have hlq : (q : Int) < (s.size : Int) := by omega
    by_cases h32 : s[q] = 32
    · have hb : (((s[q].toNat : Nat) : Int) == 32) = true := by rw [h32]; rfl
      have HS : Hid (skipS (s.data.toList.drop (q + 1)) = skipS (s.data.toList.drop p)) := (skipS_step (by simpa using hlt3) h32).trans hsk.out
      clear h32
      go_wp2_with fail
      go_round
      case rel => exact ⟨q + 1, by omega, by go_num, HS⟩
      case measure => simp [intOf]; omega
    · have hb : (((s[q].toNat : Nat) : Int) == 32) = false := by
        rw [beq_eq_false_iff_ne]
        intro e
        exact h32 (UInt8.toNat_inj.1 (by rw [show (32 : UInt8).toNat = 32 from rfl]; omega))
      have HS : Hid (s.data.toList.drop q = skipS (s.data.toList.drop p)) := by
        show _ = _
        rw [← hsk.out, skipS_stop]
        intro c hc
        obtain ⟨h1, h2⟩ := List.getElem?_eq_some_iff.1 hc
        rw [← h2]
        exact h32
      have hqn : ((q : Int) == (s.size : Int)) = false := by rw [beq_eq_false_iff_ne]; omega
      clear h32 hsk
      go_wp2_with fail
      clear hb
      go_loop [5] (fun i => ∃ k : Nat, q ≤ k ∧ k ≤ s.size ∧ i = .int .i64 k ∧ Hid (∀ c ∈ (s.data.toList.drop q).take (k - q), inW c = true)) (fun i => s.size - (intOf i).toNat)
      case atStart => exact ⟨q, Nat.le_refl _, hq, rfl, by intro c hc; simp at hc⟩
      case round =>
        obtain ⟨k, hqk, hk, rfl, hall⟩ := hrel
        have hk0 : (0 : Int) ≤ (k : Int) := by omega
        by_cases hc : ∃ h : k < s.size, inWI (s[k].toNat : Int) = true
        · obtain ⟨hks, hi⟩ := hc
          have hb0 : 0 ≤ (s[k].toNat : Int) := by omega
          have hb' : (s[k].toNat : Int) ≤ 255 := by have := s[k].toNat_lt; omega
          have hlk : (k : Int) < (s.size : Int) := by omega
          have HT : Hid (∀ c ∈ (s.data.toList.drop q).take (k + 1 - q), inW c = true) := by
            intro c hc
            rw [show k + 1 - q = (k - q) + 1 by omega, take_snoc' (s.data.toList.drop q) (k - q) (by simp; omega), List.mem_append] at hc
            rcases hc with hc | hc
            · exact hall.out c hc
            · rw [List.mem_singleton] at hc
              subst hc
              rw [List.getElem_drop]
              show inW (s.data.toList[q + (k - q)]'_) = true
              have e : s.data.toList[q + (k - q)]'(by simp; omega) = s[k] := by
                have h1 := inW_get hks
                rw [List.getElem?_eq_getElem (by simpa using hks)] at h1
                injection h1 with h1
                simp only [show q + (k - q) = k by omega]
                exact h1
              rw [e]
              exact hi
          rw [inWI_low] at hi
          cases hw : lowI (s[k].toNat : Int)
          · rw [hw, Bool.false_or, decide_eq_true_eq] at hi
            obtain ⟨hA, hZ⟩ := hi
            have HW := hidIt hw
            clear hw
            go_wp2_with fail
            refine (qword_any _ hb0 hb' w).mono ?_
            rintro e w' ⟨rfl, rfl⟩
            rw [HW.out]
            go_wp2_with fail
            go_round
            case rel => exact ⟨k + 1, by omega, by omega, by go_num, HT⟩
            case measure => simp [intOf]; omega
          · have HW := hidIt hw
            clear hw hi
            go_wp2_with fail
            refine (qword_any _ hb0 hb' w).mono ?_
            rintro e w' ⟨rfl, rfl⟩
            rw [HW.out]
            go_wp2_with fail
            go_round
            case rel => exact ⟨k + 1, by omega, by omega, by go_num, HT⟩
            case measure => simp [intOf]; omega
        · have HU : Hid ((s.data.toList.drop q).takeWhile inW = (s.data.toList.drop q).take (k - q)) := takeWhile_take hall.out fun c hc' => by
            rw [List.getElem?_drop] at hc'
            obtain ⟨h1, h2⟩ := List.getElem?_eq_some_iff.1 hc'
            have hks : k < s.size := by simp at h1; omega
            cases hi : inW c
            · rfl
            · exfalso
              refine hc ⟨hks, ?_⟩
              have h3 := inW_get hks
              rw [show q + (k - q) = k by omega, h3] at hc'
              injection hc' with hc'
              rw [hc']
              exact hi
          have HSTOP : Hid (∀ hks : k < s.size, inWI (s[k].toNat : Int) = false) := fun hks => by
            cases hi : inWI (s[k].toNat : Int)
            · rfl
            · exact absurd ⟨hks, hi⟩ hc
          clear hc
          by_cases hqk2 : q < k
          · have hgt : (q : Int) < (k : Int) := by omega
            have hX : Hid ((s.extract q k).toList = (s.data.toList.drop q).take (k - q)) := extract_mid s q k
            have hne : (s.data.toList.drop q).take (k - q) ≠ [] := by
              intro e
              have := congrArg List.length e
              simp at this
              omega
            have HRW := hidIt (rtk_word (by rw [HU.out]; exact hne))
            rw [HU.out] at HRW
            have hXD : Hid ((s.extract q k) = ⟨((s.data.toList.drop q).take (k - q)).toArray⟩) := by
              show _ = _
              apply ByteArray.ext
              apply Array.toList_inj.1
              rw [← Lib.toList_data, hX.out]
            have hxs : (s.extract q k).size ≤ maxLen := by
              rw [hXD.out, mk_size, List.length_take]
              unfold maxLen
              omega
            have HOK : Hid ((s.extract q k).toList = [48] ∨ (s.extract q k).toList = [49] ∨ vn (s.extract q k) = true → (⟨(rtk (s.data.toList.drop q)).toArray⟩ : ByteArray) = s.extract q k) := fun h => by
              rw [HRW.out, if_pos (by rw [← hX.out, show (⟨((s.extract q k).toList).toArray⟩ : ByteArray) = s.extract q k by rw [hX.out]; exact hXD.out.symm]; exact h), hXD.out]
            have HNO : Hid (¬ (s.extract q k).toList = [48] → ¬ (s.extract q k).toList = [49] → vn (s.extract q k) = false → rtk (s.data.toList.drop q) = [63]) := fun h1 h2 h3 => by
              rw [HRW.out, if_neg (by
                rw [← hX.out, show (⟨((s.extract q k).toList).toArray⟩ : ByteArray) = s.extract q k by rw [hX.out]; exact hXD.out.symm]
                exact fun h => h.elim h1 fun h => h.elim h2 fun h => by rw [h3] at h; cases h)]
            have fin : ∀ (W : World), Below w.heap.size w W → (⟨(rtk (s.data.toList.drop q)).toArray⟩ : ByteArray) = s.extract q k → ∃ i : Nat, (Ending.returned (.tuple #[.string (s.extract q k), .int .i64 (q : Int)]) = .returned (.tuple #[.string ⟨(rtk (s.data.toList.drop i)).toArray⟩, .int .i64 (i : Int)])) ∧ i ≤ s.size ∧ s.data.toList.drop i = skipS (s.data.toList.drop p) ∧ Below w.heap.size w W := fun W hb h => ⟨q, by rw [h], hq, HS.out, hb⟩
            have FIN := hidIt fin
            have FIN2 : Hid (∀ (W : World), Below w.heap.size w W → rtk (s.data.toList.drop q) = [63] → ∃ i : Nat, (Ending.returned (.tuple #[.string ⟨#[63]⟩, .int .i64 (q : Int)]) = .returned (.tuple #[.string ⟨(rtk (s.data.toList.drop i)).toArray⟩, .int .i64 (i : Int)])) ∧ i ≤ s.size ∧ s.data.toList.drop i = skipS (s.data.toList.drop p) ∧ Below w.heap.size w W) := fun W hb h => ⟨q, by rw [h], hq, HS.out, hb⟩
            clear fin hne HRW hX hXD HU hall
            have h3 : (¬ k < s.size) ∨ (∃ h : k < s.size, lowI (s[k].toNat : Int) = false ∧ 90 < (s[k].toNat : Int)) ∨ (∃ h : k < s.size, lowI (s[k].toNat : Int) = false ∧ (s[k].toNat : Int) < 65) := by
              by_cases hks : k < s.size
              · have h1 := HSTOP.out hks
                rw [inWI_low, Bool.or_eq_false_iff, decide_eq_false_iff_not] at h1
                by_cases h65 : (s[k].toNat : Int) < 65
                · exact .inr (.inr ⟨hks, h1.1, h65⟩)
                · exact .inr (.inl ⟨hks, h1.1, by omega⟩)
              · exact .inl hks
            clear HSTOP
            by_cases h48 : (s.extract q k).toList = [48]
            · have HE := hidIt (HOK.out (.inl h48))
              rcases h3 with hks | ⟨hks, hw, h90⟩ | ⟨hks, hw, h65⟩
              case' inl =>
                have hkn : decide ((k : Int) < (s.size : Int)) = false := decide_eq_false (by omega)
                go_wp2_with fail
              case' inr.inl =>
                have hb0 : 0 ≤ (s[k].toNat : Int) := by omega
                have hb' : (s[k].toNat : Int) ≤ 255 := by have := s[k].toNat_lt; omega
                have hlk : (k : Int) < (s.size : Int) := by omega
                have HW := hidIt hw
                clear hw
                go_wp2_with fail
                refine (qword_any _ hb0 hb' w).mono ?_
                rintro e w' ⟨rfl, rfl⟩
                rw [HW.out]
                go_wp2_with fail
              case' inr.inr =>
                have hb0 : 0 ≤ (s[k].toNat : Int) := by omega
                have hb' : (s[k].toNat : Int) ≤ 255 := by have := s[k].toNat_lt; omega
                have hlk : (k : Int) < (s.size : Int) := by omega
                have HW := hidIt hw
                clear hw
                go_wp2_with fail
                refine (qword_any _ hb0 hb' w).mono ?_
                rintro e w' ⟨rfl, rfl⟩
                rw [HW.out]
                go_wp2_with fail
              all_goals
                go_ret2
                exact FIN.out _ (Below.refl _ _) HE.out
            by_cases h49 : (s.extract q k).toList = [49]
            · have HE := hidIt (HOK.out (.inr (.inl h49)))
              rcases h3 with hks | ⟨hks, hw, h90⟩ | ⟨hks, hw, h65⟩
              case' inl =>
                have hkn : decide ((k : Int) < (s.size : Int)) = false := decide_eq_false (by omega)
                go_wp2_with fail
              case' inr.inl =>
                have hb0 : 0 ≤ (s[k].toNat : Int) := by omega
                have hb' : (s[k].toNat : Int) ≤ 255 := by have := s[k].toNat_lt; omega
                have hlk : (k : Int) < (s.size : Int) := by omega
                have HW := hidIt hw
                clear hw
                go_wp2_with fail
                refine (qword_any _ hb0 hb' w).mono ?_
                rintro e w' ⟨rfl, rfl⟩
                rw [HW.out]
                go_wp2_with fail
              case' inr.inr =>
                have hb0 : 0 ≤ (s[k].toNat : Int) := by omega
                have hb' : (s[k].toNat : Int) ≤ 255 := by have := s[k].toNat_lt; omega
                have hlk : (k : Int) < (s.size : Int) := by omega
                have HW := hidIt hw
                clear hw
                go_wp2_with fail
                refine (qword_any _ hb0 hb' w).mono ?_
                rintro e w' ⟨rfl, rfl⟩
                rw [HW.out]
                go_wp2_with fail
              all_goals
                go_ret2
                exact FIN.out _ (Below.refl _ _) HE.out
            have b48 : ((s.extract q k).toList == [48]) = false := beq_eq_false_iff_ne.2 h48
            have b49 : ((s.extract q k).toList == [49]) = false := beq_eq_false_iff_ne.2 h49
            cases hvn : vn (s.extract q k)
            · have HE := hidIt (HNO.out h48 h49 hvn)
              have HV := hidIt hvn
              clear hvn h48 h49
              rcases h3 with hks | ⟨hks, hw, h90⟩ | ⟨hks, hw, h65⟩
              case' inl =>
                have hkn : decide ((k : Int) < (s.size : Int)) = false := decide_eq_false (by omega)
                go_wp2_with fail
              case' inr.inl =>
                have hb0 : 0 ≤ (s[k].toNat : Int) := by omega
                have hb' : (s[k].toNat : Int) ≤ 255 := by have := s[k].toNat_lt; omega
                have hlk : (k : Int) < (s.size : Int) := by omega
                have HW := hidIt hw
                clear hw
                go_wp2_with fail
                refine (qword_any _ hb0 hb' w).mono ?_
                rintro e w' ⟨rfl, rfl⟩
                rw [HW.out]
                go_wp2_with fail
              case' inr.inr =>
                have hb0 : 0 ≤ (s[k].toNat : Int) := by omega
                have hb' : (s[k].toNat : Int) ≤ 255 := by have := s[k].toNat_lt; omega
                have hlk : (k : Int) < (s.size : Int) := by omega
                have HW := hidIt hw
                clear hw
                go_wp2_with fail
                refine (qword_any _ hb0 hb' w).mono ?_
                rintro e w' ⟨rfl, rfl⟩
                rw [HW.out]
                go_wp2_with fail
              all_goals
                refine (rValidName_any _ w hxs).mono ?_
                rintro e w' ⟨rfl, rfl⟩
                rw [HV.out]
                go_wp2_with fail
                go_ret2
                exact FIN2.out _ (Below.refl _ _) HE.out
            · have HE := hidIt (HOK.out (.inr (.inr hvn)))
              have HV := hidIt hvn
              clear hvn h48 h49
              rcases h3 with hks | ⟨hks, hw, h90⟩ | ⟨hks, hw, h65⟩
              case' inl =>
                have hkn : decide ((k : Int) < (s.size : Int)) = false := decide_eq_false (by omega)
                go_wp2_with fail
              case' inr.inl =>
                have hb0 : 0 ≤ (s[k].toNat : Int) := by omega
                have hb' : (s[k].toNat : Int) ≤ 255 := by have := s[k].toNat_lt; omega
                have hlk : (k : Int) < (s.size : Int) := by omega
                have HW := hidIt hw
                clear hw
                go_wp2_with fail
                refine (qword_any _ hb0 hb' w).mono ?_
                rintro e w' ⟨rfl, rfl⟩
                rw [HW.out]
                go_wp2_with fail
              case' inr.inr =>
                have hb0 : 0 ≤ (s[k].toNat : Int) := by omega
                have hb' : (s[k].toNat : Int) ≤ 255 := by have := s[k].toNat_lt; omega
                have hlk : (k : Int) < (s.size : Int) := by omega
                have HW := hidIt hw
                clear hw
                go_wp2_with fail
                refine (qword_any _ hb0 hb' w).mono ?_
                rintro e w' ⟨rfl, rfl⟩
                rw [HW.out]
                go_wp2_with fail
              all_goals
                refine (rValidName_any _ w hxs).mono ?_
                rintro e w' ⟨rfl, rfl⟩
                rw [HV.out]
                go_wp2_with fail
                go_ret2
                exact FIN.out _ (Below.refl _ _) HE.out
          · obtain rfl : k = q := by omega
            have h1 := HSTOP.out hlt3
            have HR : Hid (s.data.toList.drop k = s[k] :: s.data.toList.drop (k + 1)) := drop_cons_at s k hlt3
            have HIW : Hid (inW s[k] = false) := h1
            rw [inWI_low, Bool.or_eq_false_iff, decide_eq_false_iff_not] at h1
            obtain ⟨hw, hAZ⟩ := h1
            have h3 : 90 < (s[k].toNat : Int) ∨ (s[k].toNat : Int) < 65 := by omega
            have hb0 : 0 ≤ (s[k].toNat : Int) := by omega
            have hb' : (s[k].toNat : Int) ≤ 255 := by have := s[k].toNat_lt; omega
            have HW := hidIt hw
            clear hw hAZ HSTOP HU hall
            rcases h3 with h90 | h65
            all_goals
              go_wp2_with fail
              refine (qword_any _ hb0 hb' w).mono ?_
              rintro e w' ⟨rfl, rfl⟩
              rw [HW.out]
              go_wp2_with fail
            all_goals
              have HNB := hidIt (heap_alloc_new w (.cells #[.string ⟨#[126]⟩, .string ⟨#[38]⟩, .string ⟨#[124]⟩, .string ⟨#[45, 62]⟩, .string ⟨#[60, 45, 62]⟩, .string ⟨#[40]⟩, .string ⟨#[41]⟩] 9))
              have HBW : Hid (Below w.heap.size w (w.alloc (.cells #[.string ⟨#[126]⟩, .string ⟨#[38]⟩, .string ⟨#[124]⟩, .string ⟨#[45, 62]⟩, .string ⟨#[60, 45, 62]⟩, .string ⟨#[40]⟩, .string ⟨#[41]⟩] 9))) := (Below.refl _ _).alloc (Nat.le_refl _) _
              generalize (w.alloc (.cells #[.string ⟨#[126]⟩, .string ⟨#[38]⟩, .string ⟨#[124]⟩, .string ⟨#[45, 62]⟩, .string ⟨#[60, 45, 62]⟩, .string ⟨#[40]⟩, .string ⟨#[41]⟩] 9)) = W at *
              have d0 := (QBox.cells (blk_kept H.out HBW.out : QBox W b s p bad)).1
              have hlW := QBox.lt (blk_kept H.out HBW.out : QBox W b s p bad)
              clear c0 c1 c2 hlt
              go_loop [101] (fun i => ∃ j : Nat, j ≤ 7 ∧ i = .int .i64 j ∧ Hid (∀ m, m < j → (rsgn.getD m []).isPrefixOf (s.data.toList.drop k) = false)) (fun i => 7 - (intOf i).toNat)
              case atStart => exact ⟨0, by omega, rfl, fun m hm => by omega⟩
              case round =>
                obtain ⟨j, hj, rfl, hno⟩ := hrel
                by_cases hj7 : j < 7
                · have e0 := rsgn_cells HNB.out j hj7
                  obtain ⟨hmem, hl3⟩ := rsgn_getD hj7
                  have HM := hidIt hmem
                  have hj0 : (0 : Int) ≤ (j : Int) := by omega
                  have hj7' : (j : Int) < 7 := by omega
                  have HST : Hid ((rsgn.getD j []).isPrefixOf (s.data.toList.drop k) = false → ∀ m, m < j + 1 → (rsgn.getD m []).isPrefixOf (s.data.toList.drop k) = false) := fun e m hm => by
                    by_cases ej : m = j
                    · subst ej; exact e
                    · exact hno.out m (by omega)
                  clear hno hmem
                  generalize rsgn.getD j [] = g at *
                  obtain ⟨gs, hgs⟩ : ∃ gs : ByteArray, gs = ⟨g.toArray⟩ := ⟨_, rfl⟩
                  have hgn : Hid (gs.size = g.length) := by show _ = _; rw [hgs, mk_size]
                  have hgl : Hid (gs.toList = g) := by show _ = _; rw [hgs, Lib.toList_data]
                  have hg3 : gs.size ≤ 3 := by rw [hgn.out]; exact hl3
                  have HGS := hidIt hgs
                  rw [← hgs] at e0
                  have hw1 : IntKind.i64.wrap ((s.size : Int) - (k : Int)) = ((s.size - k : Nat) : Int) := by rw [IntWalk.i64_in _ (by omega)]; omega
                  have hw2 : IntKind.i64.wrap ((k : Int) + (gs.size : Int)) = ((k + gs.size : Nat) : Int) := by rw [IntWalk.i64_in _ (by omega)]; omega
                  clear hgs hl3
                  cases hp : g.isPrefixOf (s.data.toList.drop k)
                  · have HN := hidIt (HST.out hp)
                    have HP := hidIt hp
                    clear hp HST
                    by_cases hfit : gs.size ≤ s.size - k
                    · have hge : ((gs.size : Int)) ≤ ((s.size - k : Nat) : Int) := by omega
                      have hsl : ((s.extract k (k + gs.size)).toList == gs.toList) = false := by
                        rw [beq_eq_false_iff_ne, extract_mid, hgl.out, show k + gs.size - k = g.length by rw [hgn.out]; omega]
                        intro e
                        have := prefix_take.2 ⟨by rw [List.length_drop]; rw [hgn.out] at hfit; simpa using hfit, e⟩
                        rw [HP.out] at this
                        cases this
                      go_wp2_with fail
                      go_round
                      case rel => exact ⟨j + 1, by omega, by go_num, HN⟩
                      case measure => simp [intOf]; omega
                    · have hge : ¬ ((gs.size : Int)) ≤ ((s.size - k : Nat) : Int) := by omega
                      go_wp2_with fail
                      go_round
                      case rel => exact ⟨j + 1, by omega, by go_num, HN⟩
                      case measure => simp [intOf]; omega
                  · obtain ⟨hfit, htk⟩ := prefix_take.1 hp
                    have HE : Hid ((⟨(rtk (s.data.toList.drop k)).toArray⟩ : ByteArray) = gs) := by show _ = _; rw [rtk_sign HM.out hp, HGS.out]
                    rw [List.length_drop, size_data, ← hgn.out] at hfit
                    have hge : ((gs.size : Int)) ≤ ((s.size - k : Nat) : Int) := by omega
                    have hsl : ((s.extract k (k + gs.size)).toList == gs.toList) = true := by
                      rw [beq_iff_eq, extract_mid, hgl.out, show k + gs.size - k = g.length by rw [hgn.out]; omega]
                      exact htk
                    have fin : Hid (∃ i : Nat, (Ending.returned (.tuple #[.string gs, .int .i64 (k : Int)]) = .returned (.tuple #[.string ⟨(rtk (s.data.toList.drop i)).toArray⟩, .int .i64 (i : Int)])) ∧ i ≤ s.size ∧ s.data.toList.drop i = skipS (s.data.toList.drop p) ∧ Below w.heap.size w W) := ⟨k, by rw [HE.out], hq, HS.out, HBW.out⟩
                    clear hp HST htk
                    go_wp2_with fail
                    go_ret2
                    exact fin.out
                · obtain rfl : j = 7 := by omega
                  have HE : Hid (rtk (s.data.toList.drop k) = [63]) := by
                    show _ = _
                    have h1 := rsgn_all hno.out
                    rw [HR.out] at h1 ⊢
                    exact rtk_none HIW.out h1
                  have fin : Hid (∃ i : Nat, (Ending.returned (.tuple #[.string ⟨#[63]⟩, .int .i64 (k : Int)]) = .returned (.tuple #[.string ⟨(rtk (s.data.toList.drop i)).toArray⟩, .int .i64 (i : Int)])) ∧ i ≤ s.size ∧ s.data.toList.drop i = skipS (s.data.toList.drop p) ∧ Below w.heap.size w W) := ⟨k, by rw [HE.out], hq, HS.out, HBW.out⟩
                  go_wp2_with fail
                  go_ret2
                  exact fin.out
end Go.Proofs.YtilkpjcbmllgmaaDoor

namespace Go.Proofs.YtilkpjcbmllgmaaDoor
set_option linter.unusedVariables false
set_option linter.unusedSimpArgs false
open Go.RowKit

/-- What a reading method leaves. -/
def PPost (w : World) (b : Nat) (s : ByteArray) (res : Option Tree × Rest) (e : Ending) (w' : World) : Prop :=
  ∃ (op : Int) (nm : ByteArray) (a : Option Addr) (n c : Nat), e = .returned (.tuple #[.agg #[.int .i64 op, .string nm, .slice a n c], .bool res.1.isSome]) ∧
    (∀ f, res.1 = some f → FormIn w' (fun i => w.heap.size ≤ i) (.agg #[.int .i64 op, .string nm, .slice a n c]) f) ∧ PAt w' b s res.2 ∧ w.grownBy w' (some b)

/-- The method number f reads what the specification says, at this rest. -/
def POk (f : Nat) (spec : Rest → Option Tree × Rest) (r : Rest) : Prop :=
  ∀ (w : World) (b : Nat) (s : ByteArray), PAt w b s r → Calls Tryd.prog f #[.pointer (some ⟨b, 0, none⟩)] w (PPost w b s (spec r))

/-- A block stays where another one is written. -/
theorem own_kept {w w' : World} {i b : Nat} {o : Obj} (h : w.heap[i]? = some o) (hg : w.grownBy w' (some b)) (hi : i ≠ b) : w'.heap[i]? = some o := by
  rw [hg.block i (lt_of_block h) (fun e => hi (by injection e))]
  exact h
theorem cells_free {w : World} {b : Nat} {x y z : Value} {t : TypeId} (h : w.heap[b]? = some (.cells #[x, y, z] t (0, 0))) : w.frozen? ⟨b, 0, none⟩ = false ∧ w.frozen? ⟨b, 1, none⟩ = false ∧ w.frozen? ⟨b, 2, none⟩ = false := ⟨free_any h 0, free_any h 1, free_any h 2⟩

/-- Writing a block that is newer than w changes nothing of w. -/
theorem only_new {w w2 w' : World} {b R : Nat} (h : w.grownBy w2 (some b)) (hg : w2.grownBy w' (some R)) (hR : w.heap.size ≤ R) : w.grownBy w' (some b) :=
  ⟨hg.os.trans h.os, hg.tape.trans h.tape, hg.output.trans h.output, Nat.le_trans h.size hg.size, fun i hi hne => (hg.block i (Nat.lt_of_lt_of_le hi h.size) (fun e => by injection e with e; omega)).trans (h.block i hi hne)⟩
theorem FormIn.over {w1 w2 w' : World} {R B : Nat} {v : Value} {t : Tree} (h : FormIn w2 (fun i => B ≤ i) v t) (hg : w2.grownBy w' (some R)) (hR : R < B) : FormIn w' (fun i => B ≤ i) v t :=
  h.kept fun i hi hl => hg.block i hl (fun e => by injection e with e; omega)
/-- Three cells of block R written. -/
theorem set_three (w : World) (R : Nat) (x y z : Value) : w.grownBy (((w.setCell ⟨R, 0, none⟩ x).setCell ⟨R, 1, none⟩ y).setCell ⟨R, 2, none⟩ z) (some R) := by
  have h1 : w.grownBy (w.setCell ⟨R, 0, none⟩ x) (some R) := only_setCell (p := ⟨R, 0, none⟩) (only_refl w (some R)) (.inl rfl) x
  have h2 : w.grownBy ((w.setCell ⟨R, 0, none⟩ x).setCell ⟨R, 1, none⟩ y) (some R) := only_setCell (p := ⟨R, 1, none⟩) h1 (.inl rfl) y
  exact only_setCell (p := ⟨R, 2, none⟩) h2 (.inl rfl) z

theorem notP_some (x : Option Tree × Rest) : (notP x).1.isSome = x.1.isSome := by obtain ⟨o, r⟩ := x; cases o <;> rfl
theorem notP_rest (x : Option Tree × Rest) : (notP x).2 = x.2 := by obtain ⟨o, r⟩ := x; cases o <;> rfl
theorem notP_tree {x : Option Tree × Rest} {f : Tree} (h : (notP x).1 = some f) : ∃ g, x.1 = some g ∧ f = .node 4 ⟨#[]⟩ [g] := by
  obtain ⟨o, r⟩ := x
  cases o with
  | none => cases h
  | some g => exact ⟨g, rfl, (Option.some.inj h).symm⟩
theorem i64_small {n : Int} (h : 0 ≤ n) (h' : n ≤ 9) : I64 n := by unfold I64; omega
theorem nil_le : (⟨#[]⟩ : ByteArray).size ≤ maxLen := Nat.zero_le _

set_option maxRecDepth 100000 in
set_option maxHeartbeats 1000000 in
theorem neg_walk (n : Nat) (r : Rest) (hneg : ∀ r', r'.length < r.length → POk 103 (pF n 4) r') (hprim : POk 113 (pF n 5) r) : POk 103 (pF (n + 1) 4) r := by
  intro w b s h
  obtain ⟨c0, c2⟩ := h.cells
  have hlt := h.lt
  have H := hidIt h
  obtain ⟨T, hT⟩ : ∃ T, T = (⟨(tok r).toArray⟩ : ByteArray) := ⟨_, rfl⟩
  have hTl : T.toList = tok r := by rw [hT, Lib.toList_data]
  rw [← hT] at c2
  have HN := hidIt hneg
  have HP := hidIt hprim
  clear hT hneg hprim h
  by_cases ht : tok r = [126]
  · have HE : Hid (pF (n + 1) 4 r = notP (pF n 4 (nxt r))) := by show _ = _; rw [pF4, if_pos ht]
    have hq : (T.toList == [126]) = true := by rw [hTl, ht]; rfl
    have hL : Hid ((nxt r).length < r.length) := nxt_lt (by decide) ht
    clear hTl ht
    go_enter Tryd.func103, Tryd.ntmps103
    go_wp2_with fail
    refine (next_at (H.out.alloc _)).mono ?_
    rintro e w1 ⟨rfl, hp1, hg1⟩
    have HP1 := hidIt hp1
    have HG1 : Hid (w.grownBy w1 (some b)) := only_trans (only_alloc (only_refl _ _) _) hg1
    have HK1 := hidIt (own_kept (heap_alloc_new w _) hg1 (by omega))
    have hlt1 := hp1.lt
    clear hp1 hg1 c0 c2
    go_wp2_with fail
    refine (HN.out (nxt r) hL.out w1 b s HP1.out).mono ?_
    rintro e w2 ⟨op, nm, a, k, c, rfl, hf, hp2, hg2⟩
    have HF2 := hidIt hf
    have HP2 := hidIt hp2
    have HG2 := hidIt (only_trans HG1.out hg2)
    have HK2 := hidIt (own_kept HK1.out hg2 (by omega))
    have hlt2 := hp2.lt
    have hsz1 := HG1.out.size
    have hsz2 := hg2.size
    have hR := lt_of_block HK2.out
    obtain ⟨r0, r1, r2⟩ := cell_of3 HK2.out
    obtain ⟨f0, f1, f2⟩ := cells_free HK2.out
    clear hf hp2 hg2
    generalize hok : (pF n 4 (nxt r)).1.isSome = okb at *
    have HOK := hidIt hok
    clear hok
    go_wp2_with fail
    refine bodyPost_ret (v := .tuple #[.agg #[.int .i64 4, .string ⟨#[]⟩, .slice (some ⟨w2.heap.size + 1, 0, none⟩) 1 1], .bool okb]) (by simp [results, Tryd.results103, go_sem, r0, r1, r2, hR]) rfl ?_
    have hgF : w2.grownBy (((((w2.setCell ⟨w.heap.size, 0, none⟩ (.int .i64 4)).setCell ⟨w.heap.size, 1, none⟩ (.string ⟨#[]⟩)).setCell ⟨w.heap.size, 2, none⟩ (.slice (some ⟨w2.heap.size + 1, 0, none⟩) 1 1)).alloc (.cells #[.int .i64 op, .string nm, .slice a k c] 24)).alloc (.cells #[.int .i64 op, .string nm, .slice a k c] 24)) (some w.heap.size) := only_alloc (only_alloc (set_three _ _ _ _ _) _) _
    refine ⟨4, ⟨#[]⟩, _, 1, 1, by rw [HE.out, notP_some, HOK.out], fun f hf => ?_, ?_, only_new HG2.out hgF (Nat.le_refl _)⟩
    · rw [HE.out] at hf
      obtain ⟨g, hg, rfl⟩ := notP_tree hf
      have hR1 := lt_of_block HK1.out
      have h1 := ((HF2.out g hg).over (w1 := w1) hgF (by omega)).mono (S' := fun i => w.heap.size ≤ i) (fun i _ hi => by omega)
      exact FormIn.mk (FormsIn.one (heap_alloc_at (by simp [World.setCell])) (by show _ ≤ _; omega) h1) rfl (i64_small (by omega) (by omega)) nil_le (Nat.le_refl _) (by unfold maxLen; simp)
    · rw [HE.out, notP_rest]
      exact HP2.out.kept hgF (fun e => by injection e with e; omega) (fun e => by injection e with e; omega)
  · have HE : Hid (pF (n + 1) 4 r = pF n 5 r) := by show _ = _; rw [pF4, if_neg ht]
    have hq : (T.toList == [126]) = false := by rw [hTl]; exact beq_eq_false_iff_ne.2 ht
    clear hTl ht
    go_enter Tryd.func103, Tryd.ntmps103
    go_wp2_with fail
    refine (HP.out _ b s (H.out.alloc _)).mono ?_
    rintro e w2 ⟨op, nm, a, k, c, rfl, hf, hp2, hg2⟩
    have HF2 := hidIt hf
    have HP2 := hidIt hp2
    have HG2 : Hid (w.grownBy w2 (some b)) := only_trans (only_alloc (only_refl _ _) _) hg2
    have HK2 := hidIt (own_kept (heap_alloc_new w _) hg2 (by omega))
    have hR := lt_of_block HK2.out
    obtain ⟨r0, r1, r2⟩ := cell_of3 HK2.out
    obtain ⟨f0, f1, f2⟩ := cells_free HK2.out
    clear hf hp2 hg2
    generalize hok : (pF n 5 r).1.isSome = okb at *
    have HOK := hidIt hok
    clear hok
    go_wp2_with fail
    refine bodyPost_ret (v := .tuple #[.agg #[.int .i64 op, .string nm, .slice a k c], .bool okb]) (by simp [results, Tryd.results103, go_sem, r0, r1, r2, hR]) rfl ?_
    have hgF := set_three w2 w.heap.size (.int .i64 op) (.string nm) (.slice a k c)
    refine ⟨op, nm, a, k, c, by rw [HE.out, HOK.out], fun f hf => ?_, ?_, only_new HG2.out hgF (Nat.le_refl _)⟩
    · rw [HE.out] at hf
      exact ((HF2.out f hf).over (w1 := w) hgF (by simp)).mono (fun i _ hi => by simp at hi; omega)
    · rw [HE.out]
      exact HP2.out.kept hgF (fun e => by injection e with e; omega) (fun e => by injection e with e; omega)
end Go.Proofs.YtilkpjcbmllgmaaDoor

namespace Go.Proofs.YtilkpjcbmllgmaaDoor
set_option linter.unusedVariables false
set_option linter.unusedSimpArgs false
open Go.RowKit

theorem closeP_none (r : Rest) : closeP (none, r) = (none, r) := rfl
theorem closeP_yes (f : Tree) {r : Rest} (h : tok r = [41]) : closeP (some f, r) = (some f, nxt r) := by simp [closeP, h]
theorem closeP_no (f : Tree) {r : Rest} (h : ¬ tok r = [41]) : closeP (some f, r) = (none, r) := by simp [closeP, h]

set_option maxRecDepth 100000 in
set_option maxHeartbeats 1000000 in
theorem group_walk (n : Nat) (r : Rest) (heq : POk 41 (pF n 0) (nxt r)) : POk 115 (pF (n + 1) 6) r := by
  intro w b s h
  have hlt := h.lt
  have H := hidIt h
  have HQ := hidIt heq
  have HE0 : Hid (pF (n + 1) 6 r = closeP (pF n 0 (nxt r))) := pF6 n 0 r
  clear heq h
  go_enter Tryd.func115, Tryd.ntmps115
  go_wp2_with fail
  refine (next_at (H.out.alloc _)).mono ?_
  rintro e w1 ⟨rfl, hp1, hg1⟩
  have HP1 := hidIt hp1
  have HG1 : Hid (w.grownBy w1 (some b)) := only_trans (only_alloc (only_refl _ _) _) hg1
  have HK1 := hidIt (own_kept (heap_alloc_new w _) hg1 (by omega))
  have hlt1 := hp1.lt
  clear hp1 hg1
  go_wp2_with fail
  refine (HQ.out w1 b s HP1.out).mono ?_
  rintro e w2 ⟨op, nm, a, k, c, rfl, hf, hp2, hg2⟩
  cases hres : pF n 0 (nxt r) with
  | mk o r1 =>
    rw [hres] at hf hp2
    have HE : Hid (pF (n + 1) 6 r = closeP (o, r1)) := HE0.out.trans (by rw [hres])
    simp only at hf hp2
    have HG2 := hidIt (only_trans HG1.out hg2)
    have HK2 := hidIt (own_kept HK1.out hg2 (by omega))
    have hlt2 := hp2.lt
    have hsz1 := HG1.out.size
    have hsz2 := hg2.size
    have hR1 := lt_of_block HK1.out
    have hR := lt_of_block HK2.out
    obtain ⟨r0, r1', r2⟩ := cell_of3 HK2.out
    obtain ⟨f0, f1, f2⟩ := cells_free HK2.out
    obtain ⟨-, c2⟩ := hp2.cells
    have HP2 := hidIt hp2
    have HF2 := hidIt hf
    clear hf hg2 hres HE0 hp2
    obtain ⟨T, hT⟩ : ∃ T, T = (⟨(tok r1).toArray⟩ : ByteArray) := ⟨_, rfl⟩
    have hTl : T.toList = tok r1 := by rw [hT, Lib.toList_data]
    rw [← hT] at c2
    clear hT
    cases o with
    | none =>
      clear hTl
      have HE1 : Hid (pF (n + 1) 6 r = (none, r1)) := HE.out.trans (closeP_none r1)
      go_wp2_with fail
      refine bodyPost_ret (v := .tuple #[.agg #[.int .i64 op, .string nm, .slice a k c], .bool false]) (by simp [results, Tryd.results115, go_sem, r0, r1', r2, hR]) rfl ?_
      have hgF := only_alloc (set_three w2 w.heap.size (.int .i64 op) (.string nm) (.slice a k c)) (.cells #[.int .i64 op, .string nm, .slice a k c] 24)
      refine ⟨op, nm, a, k, c, by rw [HE1.out]; rfl, fun f hf => ?_, ?_, only_new HG2.out hgF (Nat.le_refl _)⟩
      · rw [HE1.out] at hf; cases hf
      · rw [HE1.out]
        exact HP2.out.kept hgF (fun e => by injection e with e; omega) (fun e => by injection e with e; omega)
    | some f =>
      have HF := hidIt (HF2.out f rfl)
      by_cases ht : tok r1 = [41]
      · have hq : (T.toList == [41]) = true := by rw [hTl, ht]; rfl
        have HE1 : Hid (pF (n + 1) 6 r = (some f, nxt r1)) := HE.out.trans (closeP_yes f ht)
        clear hTl ht
        go_wp2_with fail
        refine (next_at (HP2.out.alloc _)).mono ?_
        rintro e w3 ⟨rfl, hp3, hg3⟩
        have HG3a := hidIt (only_trans (only_alloc (only_refl w2 (some b)) _) hg3)
        have HG3 := hidIt (only_trans HG2.out HG3a.out)
        have HL3 := own_kept (heap_alloc_new w2 _) hg3 (by omega)
        have HK3 := hidIt (own_kept HK2.out HG3a.out (by omega))
        obtain ⟨l0, l1, l2⟩ := cell_of3 HL3
        have hL := lt_of_block HL3
        clear r0 r1' r2 f0 f1 f2 hR
        have hR := lt_of_block HK3.out
        obtain ⟨r0, r1', r2⟩ := cell_of3 HK3.out
        obtain ⟨f0, f1, f2⟩ := cells_free HK3.out
        have HP3 := hidIt hp3
        have HF3 := hidIt (HF.out.over (w1 := w1) HG3a.out hlt1)
        clear hp3 hg3 HL3 c2
        go_wp2_with fail
        refine bodyPost_ret (v := .tuple #[.agg #[.int .i64 op, .string nm, .slice a k c], .bool true]) (by simp [results, Tryd.results115, go_sem, r0, r1', r2, hR]) rfl ?_
        have hgF := set_three w3 w.heap.size (.int .i64 op) (.string nm) (.slice a k c)
        refine ⟨op, nm, a, k, c, by rw [HE1.out]; rfl, fun f' hf => ?_, ?_, only_new HG3.out hgF (Nat.le_refl _)⟩
        · rw [HE1.out] at hf
          obtain rfl : f = f' := Option.some.inj hf
          exact (HF3.out.over (w1 := w1) hgF hR1).mono (fun i _ hi => Nat.le_trans hsz1 hi)
        · rw [HE1.out]
          exact HP3.out.kept hgF (fun e => by injection e with e; omega) (fun e => by injection e with e; omega)
      · have hq : (T.toList == [41]) = false := by rw [hTl]; exact beq_eq_false_iff_ne.2 ht
        have HE1 : Hid (pF (n + 1) 6 r = (none, r1)) := HE.out.trans (closeP_no f ht)
        clear hTl ht
        go_wp2_with fail
        refine bodyPost_ret (v := .tuple #[.agg #[.int .i64 op, .string nm, .slice a k c], .bool false]) (by simp [results, Tryd.results115, go_sem, r0, r1', r2, hR]) rfl ?_
        have hgF := only_alloc (set_three w2 w.heap.size (.int .i64 op) (.string nm) (.slice a k c)) (.cells #[.int .i64 op, .string nm, .slice a k c] 24)
        refine ⟨op, nm, a, k, c, by rw [HE1.out]; rfl, fun f hf => ?_, ?_, only_new HG2.out hgF (Nat.le_refl _)⟩
        · rw [HE1.out] at hf; cases hf
        · rw [HE1.out]
          exact HP2.out.kept hgF (fun e => by injection e with e; omega) (fun e => by injection e with e; omega)

theorem i64_one {n : Int} (h : n = 1 ∨ n = 2 ∨ n = 3) : I64 n := by unfold I64; omega

set_option maxRecDepth 100000 in
set_option maxHeartbeats 2000000 in
theorem prim_walk (n : Nat) (r : Rest) (hgr : tok r = [40] → POk 115 (pF n 6) r) : POk 113 (pF (n + 1) 5) r := by
  intro w b s h
  obtain ⟨c0, c2⟩ := h.cells
  have hlt := h.lt
  have H := hidIt h
  have HGr := hidIt hgr
  obtain ⟨T, hT⟩ : ∃ T, T = (⟨(tok r).toArray⟩ : ByteArray) := ⟨_, rfl⟩
  have hTl : T.toList = tok r := by rw [hT, Lib.toList_data]
  rw [← hT] at c2
  have hT' := hidIt hT
  clear hT hgr h
  by_cases h40 : tok r = [40]
  · have HE : Hid (pF (n + 1) 5 r = pF n 6 r) := by show _ = _; rw [pF5, if_pos h40]
    have hq : (T.toList == [40]) = true := by rw [hTl, h40]; rfl
    have HT40 := hidIt h40
    clear hTl h40
    go_enter Tryd.func113, Tryd.ntmps113
    go_wp2_with fail
    refine (HGr.out HT40.out _ b s ((H.out.alloc _).alloc _)).mono ?_
    rintro e w2 ⟨op, nm, a, k, c, rfl, hf, hp2, hg2⟩
    have HF2 := hidIt hf
    have HP2 := hidIt hp2
    have HG2 : Hid (w.grownBy w2 (some b)) := only_trans (only_alloc (only_alloc (only_refl _ _) _) _) hg2
    have HK2 := hidIt (own_kept (own_kept (heap_alloc_new w _) (only_alloc (only_refl _ (some b)) _) (by omega)) hg2 (by omega))
    have hR := lt_of_block HK2.out
    obtain ⟨r0, r1, r2⟩ := cell_of3 HK2.out
    obtain ⟨f0, f1, f2⟩ := cells_free HK2.out
    clear hf hp2 hg2
    generalize hok : (pF n 6 r).1.isSome = okb at *
    have HOK := hidIt hok
    clear hok
    go_wp2_with fail
    refine bodyPost_ret (v := .tuple #[.agg #[.int .i64 op, .string nm, .slice a k c], .bool okb]) (by simp [results, Tryd.results113, go_sem, r0, r1, r2, hR]) rfl ?_
    have hgF := set_three w2 w.heap.size (.int .i64 op) (.string nm) (.slice a k c)
    refine ⟨op, nm, a, k, c, by rw [HE.out, HOK.out], fun f hf => ?_, ?_, only_new HG2.out hgF (Nat.le_refl _)⟩
    · rw [HE.out] at hf
      exact ((HF2.out f hf).over (w1 := w) hgF (by simp; omega)).mono (fun i _ hi => by simp at hi; omega)
    · rw [HE.out]
      exact HP2.out.kept hgF (fun e => by injection e with e; omega) (fun e => by injection e with e; omega)
  have q40 : (T.toList == [40]) = false := by rw [hTl]; exact beq_eq_false_iff_ne.2 h40
  by_cases h48 : tok r = [48]
  · have HE : Hid (pF (n + 1) 5 r = (some (.node 2 ⟨#[]⟩ []), nxt r)) := by show _ = _; rw [pF5, if_neg h40, if_pos h48]
    have hq : (T.toList == [48]) = true := by rw [hTl, h48]; rfl
    clear hTl h40 h48
    go_enter Tryd.func113, Tryd.ntmps113
    go_wp2_with fail
    refine (next_at ((H.out.alloc _).alloc _)).mono ?_
    rintro e w2 ⟨rfl, hp2, hg2⟩
    have HP2 := hidIt hp2
    have HG2 : Hid (w.grownBy w2 (some b)) := only_trans (only_alloc (only_alloc (only_refl _ _) _) _) hg2
    have HK2 := hidIt (own_kept (own_kept (heap_alloc_new w _) (only_alloc (only_refl _ (some b)) _) (by omega)) hg2 (by omega))
    have HV2 := own_kept (heap_alloc_at (by simp)) hg2 (i := w.heap.size + 1) (by omega)
    have hR := lt_of_block HK2.out
    have hV := lt_of_block HV2
    obtain ⟨r0, r1, r2⟩ := cell_of3 HK2.out
    obtain ⟨f0, f1, f2⟩ := cells_free HK2.out
    obtain ⟨v0, v1, v2⟩ := cell_of3 HV2
    clear hp2 hg2 HV2 c0 c2
    go_wp2_with fail
    refine bodyPost_ret (v := .tuple #[.agg #[.int .i64 2, .string ⟨#[]⟩, .slice none 0 0], .bool true]) (by simp [results, Tryd.results113, go_sem, r0, r1, r2, hR]) rfl ?_
    have hgF := set_three w2 w.heap.size (.int .i64 2) (.string ⟨#[]⟩) (.slice none 0 0)
    refine ⟨2, ⟨#[]⟩, none, 0, 0, by rw [HE.out]; rfl, fun f hf => ?_, ?_, only_new HG2.out hgF (Nat.le_refl _)⟩
    · rw [HE.out] at hf
      obtain rfl := Option.some.inj hf
      exact FormIn.mk (FormsIn.nil none) rfl (i64_one (by omega)) nil_le (Nat.le_refl _) (Nat.zero_le _)
    · rw [HE.out]
      exact HP2.out.kept hgF (fun e => by injection e with e; omega) (fun e => by injection e with e; omega)
  have q48 : (T.toList == [48]) = false := by rw [hTl]; exact beq_eq_false_iff_ne.2 h48
  by_cases h49 : tok r = [49]
  · have HE : Hid (pF (n + 1) 5 r = (some (.node 1 ⟨#[]⟩ []), nxt r)) := by show _ = _; rw [pF5, if_neg h40, if_neg h48, if_pos h49]
    have hq : (T.toList == [49]) = true := by rw [hTl, h49]; rfl
    clear hTl h40 h48 h49
    go_enter Tryd.func113, Tryd.ntmps113
    go_wp2_with fail
    refine (next_at ((H.out.alloc _).alloc _)).mono ?_
    rintro e w2 ⟨rfl, hp2, hg2⟩
    have HP2 := hidIt hp2
    have HG2 : Hid (w.grownBy w2 (some b)) := only_trans (only_alloc (only_alloc (only_refl _ _) _) _) hg2
    have HK2 := hidIt (own_kept (own_kept (heap_alloc_new w _) (only_alloc (only_refl _ (some b)) _) (by omega)) hg2 (by omega))
    have HV2 := own_kept (heap_alloc_at (by simp)) hg2 (i := w.heap.size + 1) (by omega)
    have hR := lt_of_block HK2.out
    have hV := lt_of_block HV2
    obtain ⟨r0, r1, r2⟩ := cell_of3 HK2.out
    obtain ⟨f0, f1, f2⟩ := cells_free HK2.out
    obtain ⟨v0, v1, v2⟩ := cell_of3 HV2
    clear hp2 hg2 HV2 c0 c2
    go_wp2_with fail
    refine bodyPost_ret (v := .tuple #[.agg #[.int .i64 1, .string ⟨#[]⟩, .slice none 0 0], .bool true]) (by simp [results, Tryd.results113, go_sem, r0, r1, r2, hR]) rfl ?_
    have hgF := set_three w2 w.heap.size (.int .i64 1) (.string ⟨#[]⟩) (.slice none 0 0)
    refine ⟨1, ⟨#[]⟩, none, 0, 0, by rw [HE.out]; rfl, fun f hf => ?_, ?_, only_new HG2.out hgF (Nat.le_refl _)⟩
    · rw [HE.out] at hf
      obtain rfl := Option.some.inj hf
      exact FormIn.mk (FormsIn.nil none) rfl (i64_one (by omega)) nil_le (Nat.le_refl _) (Nat.zero_le _)
    · rw [HE.out]
      exact HP2.out.kept hgF (fun e => by injection e with e; omega) (fun e => by injection e with e; omega)
  have q49 : (T.toList == [49]) = false := by rw [hTl]; exact beq_eq_false_iff_ne.2 h49
  have hTs : T.size ≤ maxLen := by
    rw [hT'.out, mk_size]
    have h1 := tok_len r
    have h2 := H.out.len
    unfold maxLen
    omega
  cases hvn : vn T
  · have HE : Hid (pF (n + 1) 5 r = (none, r)) := by show _ = _; rw [pF5, if_neg h40, if_neg h48, if_neg h49, if_neg (by rw [← hT'.out, hvn]; exact Bool.false_ne_true)]
    have HV := hidIt hvn
    clear hTl h40 h48 h49 hvn
    go_enter Tryd.func113, Tryd.ntmps113
    go_wp2_with fail
    refine (validName_any T _ hTs).mono ?_
    rintro e w' ⟨rfl, rfl⟩
    rw [HV.out]
    go_wp2_with fail
    refine bodyPost_ret (v := .tuple #[.agg #[.int .i64 0, .string ⟨#[]⟩, .slice none 0 0], .bool false]) (by simp [results, Tryd.results113, go_sem]) rfl ?_
    have hgF : w.grownBy ((w.alloc (.cells #[.int .i64 0, .string ⟨#[]⟩, .slice none 0 0] 24)).alloc (.cells #[.int .i64 0, .string ⟨#[]⟩, .slice none 0 0] 24)) (some b) := only_alloc (only_alloc (only_refl _ _) _) _
    refine ⟨0, ⟨#[]⟩, none, 0, 0, by rw [HE.out]; rfl, fun f hf => ?_, ?_, hgF⟩
    · rw [HE.out] at hf; cases hf
    · rw [HE.out]
      exact (H.out.alloc _).alloc _
  · have HE : Hid (pF (n + 1) 5 r = (some (.node 3 T []), nxt r)) := by show _ = _; rw [pF5, if_neg h40, if_neg h48, if_neg h49, if_pos (by rw [← hT'.out, hvn]), ← hT'.out]
    have HV := hidIt hvn
    clear hTl h40 h48 h49 hvn
    go_enter Tryd.func113, Tryd.ntmps113
    go_wp2_with fail
    refine (validName_any T _ hTs).mono ?_
    rintro e w' ⟨rfl, rfl⟩
    rw [HV.out]
    go_wp2_with fail
    go_big_region
    go_wp2_with fail
    refine (next_at (((H.out.alloc _).alloc _).go (Below.refl _ _).drew)).mono ?_
    rintro e w2 ⟨rfl, hp2, hg2⟩
    have HP2 := hidIt hp2
    have HG2 : Hid (w.grownBy w2 (some b)) := only_trans (only_drewN (only_alloc (only_alloc (only_refl _ _) _) _) 1) hg2
    have hk0 : ((w.alloc (.cells #[.int .i64 0, .string ⟨#[]⟩, .slice none 0 0] 24)).alloc (.cells #[.int .i64 3, .string T, .slice none 0 0] 24)).drew.heap[w.heap.size]? = some (.cells #[.int .i64 0, .string ⟨#[]⟩, .slice none 0 0] 24 (0, 0)) := (Below.heap_alloc (w.alloc (.cells #[.int .i64 0, .string ⟨#[]⟩, .slice none 0 0] 24)) (.cells #[.int .i64 3, .string T, .slice none 0 0] 24) w.heap.size (by simp)).trans (heap_alloc_new w _)
    have hv0 : ((w.alloc (.cells #[.int .i64 0, .string ⟨#[]⟩, .slice none 0 0] 24)).alloc (.cells #[.int .i64 3, .string T, .slice none 0 0] 24)).drew.heap[w.heap.size + 1]? = some (.cells #[.int .i64 3, .string T, .slice none 0 0] 24 (0, 0)) := heap_alloc_at (by simp)
    have HK2 := hidIt (own_kept hk0 hg2 (by omega))
    have HV2 := own_kept hv0 hg2 (by omega)
    clear hk0 hv0
    have hR := lt_of_block HK2.out
    have hV := lt_of_block HV2
    obtain ⟨r0, r1, r2⟩ := cell_of3 HK2.out
    obtain ⟨f0, f1, f2⟩ := cells_free HK2.out
    obtain ⟨v0, v1, v2⟩ := cell_of3 HV2
    clear hp2 hg2 HV2 c0 c2
    go_wp2_with fail
    refine bodyPost_ret (v := .tuple #[.agg #[.int .i64 3, .string T, .slice none 0 0], .bool true]) (by simp [results, Tryd.results113, go_sem, r0, r1, r2, hR]) rfl ?_
    have hgF := set_three w2 w.heap.size (.int .i64 3) (.string T) (.slice none 0 0)
    refine ⟨3, T, none, 0, 0, by rw [HE.out]; rfl, fun f hf => ?_, ?_, only_new HG2.out hgF (Nat.le_refl _)⟩
    · rw [HE.out] at hf
      obtain rfl := Option.some.inj hf
      exact FormIn.mk (FormsIn.nil none) rfl (i64_one (by omega)) hTs (Nat.le_refl _) (Nat.zero_le _)
    · rw [HE.out]
      exact HP2.out.kept hgF (fun e => by injection e with e; omega) (fun e => by injection e with e; omega)
end Go.Proofs.YtilkpjcbmllgmaaDoor

namespace Go.Proofs.YtilkpjcbmllgmaaDoor
set_option linter.unusedVariables false
set_option linter.unusedSimpArgs false
open Go.RowKit

theorem pairP_none {op : Int} {sign : Rest} {SL SR : Rest → Option Tree × Rest} {r r1 : Rest} (h : SL r = (none, r1)) : pairP op sign SL SR r = (none, r1) := by unfold pairP; rw [h]
theorem pairP_left {op : Int} {sign : Rest} {SL SR : Rest → Option Tree × Rest} {r r1 : Rest} {f : Tree} (h : SL r = (some f, r1)) (ht : ¬ tok r1 = sign) : pairP op sign SL SR r = (some f, r1) := by
  unfold pairP; rw [h]; simp only; rw [if_neg ht]
/-- Both parts. -/
def bothP (op : Int) (f : Tree) : Option Tree × Rest → Option Tree × Rest
  | (some g, r) => (some (.node op ⟨#[]⟩ [f, g]), r)
  | (none, r) => (none, r)
theorem pairP_both {op : Int} {sign : Rest} {SL SR : Rest → Option Tree × Rest} {r r1 : Rest} {f : Tree} (h : SL r = (some f, r1)) (ht : tok r1 = sign) : pairP op sign SL SR r = bothP op f (SR (nxt r1)) := by
  unfold pairP; rw [h]; simp only; rw [if_pos ht]; rfl
theorem bothP_some (op : Int) (f : Tree) (x : Option Tree × Rest) : (bothP op f x).1.isSome = x.1.isSome := by obtain ⟨o, r⟩ := x; cases o <;> rfl
theorem bothP_rest (op : Int) (f : Tree) (x : Option Tree × Rest) : (bothP op f x).2 = x.2 := by obtain ⟨o, r⟩ := x; cases o <;> rfl
theorem bothP_tree {op : Int} {f : Tree} {x : Option Tree × Rest} {g : Tree} (h : (bothP op f x).1 = some g) : ∃ g', x.1 = some g' ∧ g = .node op ⟨#[]⟩ [f, g'] := by
  obtain ⟨o, r⟩ := x
  cases o with
  | none => cases h
  | some g' => exact ⟨g', rfl, (Option.some.inj h).symm⟩

set_option maxRecDepth 100000 in
set_option maxHeartbeats 2000000 in
theorem pair_walk (op : Int) (hop : 0 ≤ op) (hop' : op ≤ 9) (sign : Rest) (S : ByteArray) (hS : S.toList = sign) (hs0 : 0 < sign.length) (fl fr : Nat) (el : Enters fl) (er : Enters fr) (SL SR : Rest → Option Tree × Rest) (r : Rest)
    (hL : POk fl SL r) (hR : ∀ r', r'.length < r.length → POk fr SR r') (hlen : (SL r).2.length ≤ r.length) (w : World) (b : Nat) (s : ByteArray) (h : PAt w b s r) :
    Calls Tryd.prog 59 #[.pointer (some ⟨b, 0, none⟩), .int .i64 op, .string S, .func (.func fl) #[.pointer (some ⟨b, 0, none⟩)] #[], .func (.func fr) #[.pointer (some ⟨b, 0, none⟩)] #[]] w (PPost w b s (pairP op sign SL SR r)) := by
  have hlt := h.lt
  have H := hidIt h
  have HL := hidIt hL
  have HR := hidIt hR
  have hcl : ∀ (args : Array Value) (w : World), (callFunc fl args).run Tryd.prog w = .ok (.enter fl args) w := el
  have hcr : ∀ (args : Array Value) (w : World), (callFunc fr args).run Tryd.prog w = .ok (.enter fr args) w := er
  have hI := hidIt (i64_small hop hop')
  have hlen' := hidIt hlen
  have HSS := hidIt hS
  clear hL hR h el er hlen hS
  go_enter Tryd.func59, Tryd.ntmps59
  go_wp2_with fail
  refine (HL.out _ b s (H.out.alloc _)).mono ?_
  rintro e w1 ⟨o1, n1, a1, k1, c1, rfl, hf, hp1, hg1⟩
  cases hres : SL r with
  | mk o r1 =>
    rw [hres] at hf hp1
    simp only at hf hp1
    have HG1 : Hid (w.grownBy w1 (some b)) := only_trans (only_alloc (only_refl _ _) _) hg1
    have HK1 := hidIt (own_kept (heap_alloc_new w _) hg1 (by omega))
    have hlt1 := hp1.lt
    have hR1 := lt_of_block HK1.out
    obtain ⟨r0, r1', r2⟩ := cell_of3 HK1.out
    obtain ⟨f0, f1, f2⟩ := cells_free HK1.out
    obtain ⟨-, t2⟩ := hp1.cells
    have HP1 := hidIt hp1
    have HF1 : Hid (∀ f, o = some f → FormIn w1 (fun i => w.heap.size + 1 ≤ i) (.agg #[.int .i64 o1, .string n1, .slice a1 k1 c1]) f) := fun f hf' => (hf f hf').mono (fun i _ hi => by simpa using hi)
    have hlen2 : Hid (r1.length ≤ r.length) := by have := hlen'.out; rw [hres] at this; exact this
    have HRES := hidIt hres
    clear hf hp1 hg1 hres hlen'
    obtain ⟨T, hT⟩ : ∃ T, T = (⟨(tok r1).toArray⟩ : ByteArray) := ⟨_, rfl⟩
    have hTl : Hid (T.toList = tok r1) := by show _ = _; rw [hT, Lib.toList_data]
    rw [← hT] at t2
    clear hT
    cases o with
    | none =>
      have HE : Hid (pairP op sign SL SR r = (none, r1)) := pairP_none HRES.out
      go_wp2_with fail
      refine bodyPost_ret (v := .tuple #[.agg #[.int .i64 o1, .string n1, .slice a1 k1 c1], .bool false]) (by simp [results, Tryd.results59, go_sem, r0, r1', r2, hR1]) rfl ?_
      have hgF := only_alloc (set_three w1 w.heap.size (.int .i64 o1) (.string n1) (.slice a1 k1 c1)) (.cells #[.int .i64 o1, .string n1, .slice a1 k1 c1] 24)
      refine ⟨o1, n1, a1, k1, c1, by rw [HE.out]; rfl, fun f hf => ?_, ?_, only_new HG1.out hgF (Nat.le_refl _)⟩
      · rw [HE.out] at hf; cases hf
      · rw [HE.out]
        exact HP1.out.kept hgF (fun e => by injection e with e; omega) (fun e => by injection e with e; omega)
    | some f =>
      have HF := hidIt (HF1.out f rfl)
      by_cases ht : tok r1 = sign
      · have hq : (T.toList == S.toList) = true := by rw [hTl.out, HSS.out, ht]; exact beq_self_eq_true _
        have HE : Hid (pairP op sign SL SR r = bothP op f (SR (nxt r1))) := pairP_both HRES.out ht
        have hnl : Hid ((nxt r1).length < r.length) := Nat.lt_of_lt_of_le (nxt_lt hs0 ht) hlen2.out
        clear ht
        go_wp2_with fail
        refine (next_at (HP1.out.alloc _)).mono ?_
        rintro e w2 ⟨rfl, hp2, hg2⟩
        have HG2a := hidIt (only_trans (only_alloc (only_refl w1 (some b)) _) hg2)
        have HG2 := hidIt (only_trans HG1.out HG2a.out)
        have HL2 := hidIt (own_kept (heap_alloc_new w1 _) hg2 (by omega))
        have HK2 := hidIt (own_kept HK1.out HG2a.out (by omega))
        have HP2 := hidIt hp2
        have hlt2 := hp2.lt
        have HF2 := hidIt (HF.out.over (w1 := w1) HG2a.out (by omega))
        clear hp2 hg2 r0 r1' r2 f0 f1 f2 t2
        go_wp2_with fail
        refine (HR.out _ hnl.out _ b s HP2.out).mono ?_
        rintro e w3 ⟨o3, n3, a3, k3, c3, rfl, hf3, hp3, hg3⟩
        have HG3 := hidIt (only_trans HG2.out hg3)
        have HL3 := hidIt (own_kept HL2.out hg3 (by omega))
        have HK3 := hidIt (own_kept HK2.out hg3 (by omega))
        have HP3 := hidIt hp3
        have HF3 := hidIt (HF2.out.over (w1 := w1) hg3 (by omega))
        have HQ3 := hidIt hf3
        have hs12 := HG2a.out.size
        have hs23 := hg3.size
        have hL := lt_of_block HL3.out
        obtain ⟨l0, l1, l2⟩ := cell_of3 HL3.out
        have hR3 := lt_of_block HK3.out
        obtain ⟨r0, r1', r2⟩ := cell_of3 HK3.out
        obtain ⟨f0, f1, f2⟩ := cells_free HK3.out
        clear hf3 hp3 hg3
        generalize hok : (SR (nxt r1)).1.isSome = okb at *
        have HOK := hidIt hok
        clear hok
        go_wp2_with fail
        refine bodyPost_ret (v := .tuple #[.agg #[.int .i64 op, .string ⟨#[]⟩, .slice (some ⟨w3.heap.size + 1, 0, none⟩) 2 2], .bool okb]) (by simp [results, Tryd.results59, go_sem, r0, r1', r2, hR3]) rfl ?_
        have hgF : w3.grownBy (((((w3.setCell ⟨w.heap.size, 0, none⟩ (.int .i64 op)).setCell ⟨w.heap.size, 1, none⟩ (.string ⟨#[]⟩)).setCell ⟨w.heap.size, 2, none⟩ (.slice (some ⟨w3.heap.size + 1, 0, none⟩) 2 2)).alloc (.cells #[.int .i64 o3, .string n3, .slice a3 k3 c3] 24)).alloc (.cells #[.int .i64 o1, .string n1, .slice a1 k1 c1, .int .i64 o3, .string n3, .slice a3 k3 c3] 24)) (some w.heap.size) := only_alloc (only_alloc (set_three _ _ _ _ _) _) _
        refine ⟨op, ⟨#[]⟩, _, 2, 2, by rw [HE.out, bothP_some, HOK.out], fun f' hf => ?_, ?_, only_new HG3.out hgF (Nat.le_refl _)⟩
        · rw [HE.out] at hf
          obtain ⟨g, hg, rfl⟩ := bothP_tree hf
          have h1 := ((HF3.out).over (w1 := w1) hgF (by omega)).mono (S' := fun i => w.heap.size ≤ i) (fun i _ hi => by omega)
          have h2 := ((HQ3.out g hg).over (w1 := w1) hgF (by omega)).mono (S' := fun i => w.heap.size ≤ i) (fun i _ hi => by omega)
          exact FormIn.mk (FormsIn.two (heap_alloc_at (by simp [World.setCell])) (by show _ ≤ _; omega) h1 h2) rfl hI.out nil_le (Nat.le_refl _) (by unfold maxLen; simp)
        · rw [HE.out, bothP_rest]
          exact HP3.out.kept hgF (fun e => by injection e with e; omega) (fun e => by injection e with e; omega)
      · have hq : (T.toList == S.toList) = false := by rw [hTl.out, HSS.out]; exact beq_eq_false_iff_ne.2 ht
        have HE : Hid (pairP op sign SL SR r = (some f, r1)) := pairP_left HRES.out ht
        clear ht
        go_wp2_with fail
        refine bodyPost_ret (v := .tuple #[.agg #[.int .i64 o1, .string n1, .slice a1 k1 c1], .bool true]) (by simp [results, Tryd.results59, go_sem, r0, r1', r2, hR1]) rfl ?_
        have hgF := only_alloc (set_three w1 w.heap.size (.int .i64 o1) (.string n1) (.slice a1 k1 c1)) (.cells #[.int .i64 o1, .string n1, .slice a1 k1 c1] 24)
        refine ⟨o1, n1, a1, k1, c1, by rw [HE.out]; rfl, fun f' hf => ?_, ?_, only_new HG1.out hgF (Nat.le_refl _)⟩
        · rw [HE.out] at hf
          obtain rfl : f = f' := Option.some.inj hf
          exact (HF.out.over (w1 := w) hgF (by omega)).mono (fun i _ hi => by omega)
        · rw [HE.out]
          exact HP1.out.kept hgF (fun e => by injection e with e; omega) (fun e => by injection e with e; omega)
end Go.Proofs.YtilkpjcbmllgmaaDoor

namespace Go.Proofs.YtilkpjcbmllgmaaDoor
set_option linter.unusedVariables false
set_option linter.unusedSimpArgs false
open Go.RowKit

theorem slice_inj {x y : Option Addr} {n m c d : Nat} (h : Value.slice x n c = .slice y m d) : x = y := by injection h

/-- The block of what append hands back: the old one, or a new one. -/
theorem append_block {P : Program} {w : World} (base : Nat) (t ty e : TypeId) (i : TypeInfo) (z : Value) (ht : P.underlying t = some (.slice e)) (hi : P.info? e = some i) (hz : i.zero = some z)
    (v : Value) (n : Nat) (xs : List Value) (hown : w.ownsRow base e i.size v n xs) (a : Addr) (m c : Nat) (news : List Value) (hl : news.length = m * i.size) (hnews : ∀ j u, news[j]? = some u → w.cell? (a.add j) = some u) (h1 : ∀ u ∈ news, u.oneCell' = true)
    (hm : 0 < m) (hsmall : n + m ≤ 1000000000) (hbytes : (n + m) * i.bytes ≤ 140737488355328) {v' : Value} {w' : World} (hr : (Builtin.append_ #[t, t] ty #[v, .slice (some a) m c]).run P w = .ok v' w') :
    v'.ownBlock = v.ownBlock ∨ v'.ownBlock = some w.heap.size := by
  rcases hown.2 with ⟨rfl, rfl⟩ | ⟨g, cap, cur, rfl, -, hg, hnc, -, hcs, -⟩
  · have hx := run_append_nil (P := P) w t ty e i z ht hi hz a m c news hl hnews hm (by omega) (by have := hbytes; simp only [Nat.zero_add] at this; omega)
    rw [hx] at hr
    injection hr with hr
    rw [← hr]
    exact .inr rfl
  · by_cases hroom : n + m ≤ cap
    · have hx := run_append_room (P := P) w t ty e i ht hi g n cap cur hg a m c news hl hnews h1 hroom (by rw [hl, hcs, ← Nat.add_mul]; exact Nat.mul_le_mul_right _ hroom)
      rw [hx] at hr
      injection hr with hr
      rw [← hr]
      exact .inl rfl
    · have hx := run_append_grow (P := P) w t ty e i z ht hi hz ⟨g, 0, none⟩ n cap xs hown.1 (hown.cells (g := g) rfl) a m c news hl hnews (by omega) (by omega) (growslice_fits (by omega) hbytes)
      rw [hx] at hr
      injection hr with hr
      rw [← hr]
      exact .inr rfl

theorem infoF : (Tryd.prog.info? 24).map (fun i => (i.zero, i.size, i.bytes)) = some (some (.agg #[.int .i64 0, .string ⟨#[]⟩, .slice none 0 0]), 3, 48) := by kernel_rfl

abbrev hds (ts : List Tree) (hs : List (Option Addr × Nat)) : List Hd := List.zipWith (fun t x => t.hd x.1 x.2) ts hs

/-- The value is a list of formulas that the call owns, from block B on; none of the formulas lies in the list's own block. -/
def OwnF (w : World) (B : Nat) (v : Value) (ts : List Tree) : Prop :=
  ∃ hs : List (Option Addr × Nat), hs.length = ts.length ∧ w.ownsRow B 24 3 v ts.length (flatF (hds ts hs)) ∧
    ∀ i (h : i < ts.length) (h' : i < hs.length), FormIn w (fun k => B ≤ k ∧ v.ownBlock ≠ some k) (ts[i].hd hs[i].1 hs[i].2).val ts[i]

section
variable {w w' : World} {B : Nat} {v : Value} {ts : List Tree}
theorem OwnF.block (h : OwnF w B v ts) : ∀ g, v.ownBlock = some g → B ≤ g ∧ g < w.heap.size := by
  obtain ⟨hs, -, ho, -⟩ := h
  exact World.ownsRow.lt ho
theorem OwnF.nil (w : World) (B : Nat) : OwnF w B (.slice none 0 0) [] := ⟨[], rfl, World.ownsRow_nil w B _ _, fun i h => by simp at h⟩
theorem OwnF.kept {row : Option Nat} (h : OwnF w B v ts) (hg : w.grownBy w' row) (hr : ∀ g, row = some g → g < B) : OwnF w' B v ts := by
  obtain ⟨hs, h1, ho, hf⟩ := h
  refine ⟨hs, h1, World.ownsRow.kept ho hg ?_, fun i hi hi' => (hf i hi hi').kept fun k hk hl => hg.block k hl (fun e => by have := hr k e.symm; omega)⟩
  cases hv : v.ownBlock with
  | none => exact .inl rfl
  | some g =>
    refine .inr (fun e => ?_)
    have h2 := (World.ownsRow.lt ho g hv).1
    have h3 := hr g e.symm
    omega
theorem OwnF.go (h : OwnF w B v ts) (hb : Below w.heap.size w w') : OwnF w' B v ts := h.kept (only_of_below hb none) (fun g e => by cases e)
theorem OwnF.alloc (h : OwnF w B v ts) (o : Obj) : OwnF (w.alloc o) B v ts := h.go ((Below.refl _ _).alloc (Nat.le_refl _) o)

theorem OwnF.form (h : OwnF w B v ts) : ∃ (a : Option Addr) (c : Nat), v = .slice a ts.length c ∧ ts.length ≤ c ∧ c ≤ maxLen ∧ FormsIn w (fun k => B ≤ k) a ts := by
  obtain ⟨hs, h1, ho, hf⟩ := h
  rcases ho.2 with ⟨rfl, h0⟩ | ⟨g, cap, cur, rfl, hB, hg, hnc, hcm, hcs, htake⟩
  · have : ts = [] := List.eq_nil_of_length_eq_zero h0
    subst this
    exact ⟨none, 0, rfl, Nat.le_refl _, Nat.zero_le _, FormsIn.nil none⟩
  · refine ⟨_, cap, rfl, hnc, hcm, FormsIn.of_cells hs ts h1 hB (fun j u hj => ?_) (fun i hi hi' => (hf i hi hi').mono fun k _ hk => hk.1)⟩
    have := World.ownsRow.cells ho (g := g) rfl j u hj
    have e : (⟨g, 0, none⟩ : Addr).add j = ⟨g, 0 + j, none⟩ := by unfold Addr.add; split <;> simp_all
    rwa [e] at this
end

theorem zip_snoc (ts : List Tree) (hs : List (Option Addr × Nat)) (t : Tree) (x : Option Addr × Nat) (h : hs.length = ts.length) : hds (ts ++ [t]) (hs ++ [x]) = hds ts hs ++ [t.hd x.1 x.2] := by
  unfold hds
  rw [List.zipWith_append (by omega)]
  rfl

/-- append of one formula, which lies in a row of its own, to a list that the call owns. -/
theorem wpList_append_form {w : World} {ops : Array Oper} {rest : List Oper} {o : Oper} {a : Act} {Q : Exit → Act → World → Prop} (hgd : o.guard = none) (s x : Operand)
    (ho : o.op = .call { callee := .builtin .append, args := #[s, x], argTypes := #[22, 22] }) (B : Nat) (v : Value) (ts : List Tree) (hs : a.eval s = v) (hown : OwnF w B v ts)
    (m c1 : Nat) (hx : a.eval x = .slice (some ⟨m, 0, none⟩) 1 c1) {op : Int} {nm : ByteArray} {ad : Option Addr} {n c : Nat} {ty : TypeId} (hm : w.heap[m]? = some (.cells #[.int .i64 op, .string nm, .slice ad n c] ty (0, 0))) (t : Tree)
    (hf : FormIn w (fun k => B ≤ k ∧ v.ownBlock ≠ some k) (.agg #[.int .i64 op, .string nm, .slice ad n c]) t) (hlen : ts.length ≤ 1000000) (hB : B ≤ w.heap.size)
    (h : ∀ v' w', OwnF w' B v' (ts ++ [t]) → w.grownBy w' v.ownBlock → (v'.ownBlock = v.ownBlock ∨ v'.ownBlock = some w.heap.size) → wpList Tryd.prog ops Q rest (a.put o.dst v') w') : wpList Tryd.prog ops Q (o :: rest) a w := by
  obtain ⟨i0, hi, hz0, hz1, hz2⟩ := info_parts infoF
  obtain ⟨rfl, rfl, rfl⟩ := hf.shape
  obtain ⟨hs', h1, hrow, hfs⟩ := hown
  have hnews : ∀ j u, ((t.hd ad c).cells)[j]? = some u → w.cell? ((⟨m, 0, none⟩ : Addr).add j) = some u := by
    obtain ⟨p0, p1, p2⟩ := cell_of3 hm
    intro j u hj
    have e : (⟨m, 0, none⟩ : Addr).add j = ⟨m, j, none⟩ := by unfold Addr.add; split <;> simp_all
    rw [e]
    match j with
    | 0 => simp only [Hd.cells, Tree.hd, List.getElem?_cons_zero, Option.some.injEq] at hj; rw [← hj]; exact p0
    | 1 => simp only [Hd.cells, Tree.hd, List.getElem?_cons_zero, List.getElem?_cons_succ, Option.some.injEq] at hj; rw [← hj]; exact p1
    | 2 => simp only [Hd.cells, Tree.hd, List.getElem?_cons_zero, List.getElem?_cons_succ, Option.some.injEq] at hj; rw [← hj]; exact p2
    | j + 3 => simp [Hd.cells] at hj
  have hone : ∀ u ∈ (t.hd ad c).cells, u.oneCell' = true := fun u hu => flatF_one [t.hd ad c] u (by simpa [flatF] using hu)
  have hl : ((t.hd ad c).cells).length = 1 * i0.size := by rw [hz1]; rfl
  refine wpList_plain hgd fun K hK => ?_
  rw [← hz1] at hrow
  obtain ⟨v', w', hr, h2, h3, h4⟩ := run_append_own (P := Tryd.prog) w B 22 o.type 24 i0 _ i0.size 48 Tryd.underlying22 hi hz0 rfl hz2 (by rw [hz1]; rfl) (by rw [hz1]; decide) v ts.length _ hrow ⟨m, 0, none⟩ 1 c1 _ hl hnews hone (by unfold maxLen; omega) (by omega) hB
  have hbl := append_block (P := Tryd.prog) (w := w) B 22 o.type 24 i0 _ Tryd.underlying22 hi hz0 v ts.length _ hrow ⟨m, 0, none⟩ 1 c1 _ hl hnews hone (by omega) (by omega) (by rw [hz2]; omega) hr
  have hwp : OwnF w' B v' (ts ++ [t]) := by
    refine ⟨hs' ++ [(ad, c)], by simp [h1], ?_, fun i hi1 hi2 => ?_⟩
    · rw [zip_snoc ts hs' t (ad, c) h1, flatF_append, List.length_append]
      rw [hz1] at h2
      have e : flatF [t.hd ad c] = (t.hd ad c).cells := by simp [flatF]
      rw [e]
      exact h2
    · have hgo : ∀ {u : Value} {y : Tree}, FormIn w (fun k => B ≤ k ∧ v.ownBlock ≠ some k) u y → FormIn w' (fun k => B ≤ k ∧ v'.ownBlock ≠ some k) u y := fun hy =>
        (hy.mono (S' := fun k => (B ≤ k ∧ v.ownBlock ≠ some k) ∧ v'.ownBlock ≠ some k) (fun k hk hS => ⟨hS, fun e => by
          rcases hbl with hb | hb
          · exact hS.2 (by rw [← hb, e])
          · rw [hb] at e; injection e with e; omega⟩)).kept (fun k hk hl => h3.block k hl (fun e => hk.1.2 e.symm)) |>.mono fun k _ hk => ⟨hk.1.1, hk.2⟩
      by_cases hi3 : i < ts.length
      · have := hgo (hfs i hi3 (by omega))
        simp only [List.getElem_append_left hi3, List.getElem_append_left (show i < hs'.length by omega)]
        exact this
      · have hi4 : i = ts.length := by simp at hi1; omega
        subst hi4
        have := hgo hf
        simp only [List.getElem_append_right (Nat.le_refl _), List.getElem_append_right (show hs'.length ≤ ts.length by omega), h1, Nat.sub_self, List.getElem_cons_zero]
        exact this
  unfold Oper.wp execOp
  simp only [ho, resolve, invoke, builtin, Sem.run_bind, Sem.run_pure, Result.andThen_ok, List.map_toArray, List.map_cons, List.map_nil, hs, hx, hr]
  exact hK _ _ (h v' w' hwp h3 hbl)

/-- append of three cells, whatever they are: some slice. -/
theorem wpList_append_junk {w : World} {ops : Array Oper} {rest : List Oper} {o : Oper} {a : Act} {Q : Exit → Act → World → Prop} (hgd : o.guard = none) (s x : Operand)
    (ho : o.op = .call { callee := .builtin .append, args := #[s, x], argTypes := #[22, 22] }) (B : Nat) (v : Value) (ts : List Tree) (hs : a.eval s = v) (hown : OwnF w B v ts)
    (m c1 : Nat) (hx : a.eval x = .slice (some ⟨m, 0, none⟩) 1 c1) {op : Int} {nm : ByteArray} {ad : Option Addr} {n c : Nat} {ty : TypeId} (hm : w.heap[m]? = some (.cells #[.int .i64 op, .string nm, .slice ad n c] ty (0, 0)))
    (hlen : ts.length ≤ 1000000) (hB : B ≤ w.heap.size)
    (h : ∀ (a' : Option Addr) (n' c' : Nat) (w' : World), w.grownBy w' v.ownBlock → wpList Tryd.prog ops Q rest (a.put o.dst (.slice a' n' c')) w') : wpList Tryd.prog ops Q (o :: rest) a w := by
  obtain ⟨i0, hi, hz0, hz1, hz2⟩ := info_parts infoF
  obtain ⟨hs', h1, hrow, hfs⟩ := hown
  have hnews : ∀ j u, (([.int .i64 op, .string nm, .slice ad n c] : List Value))[j]? = some u → w.cell? ((⟨m, 0, none⟩ : Addr).add j) = some u := by
    obtain ⟨p0, p1, p2⟩ := cell_of3 hm
    intro j u hj
    have e : (⟨m, 0, none⟩ : Addr).add j = ⟨m, j, none⟩ := by unfold Addr.add; split <;> simp_all
    rw [e]
    match j with
    | 0 => simp only [List.getElem?_cons_zero, Option.some.injEq] at hj; rw [← hj]; exact p0
    | 1 => simp only [List.getElem?_cons_zero, List.getElem?_cons_succ, Option.some.injEq] at hj; rw [← hj]; exact p1
    | 2 => simp only [List.getElem?_cons_zero, List.getElem?_cons_succ, Option.some.injEq] at hj; rw [← hj]; exact p2
    | j + 3 => simp at hj
  refine wpList_append_own w hgd s x 22 ho B 24 i0 _ 3 48 Tryd.underlying22 hi hz0 hz1 hz2 rfl (by decide) v ts.length _ hs hrow ⟨m, 0, none⟩ 1 c1 [.int .i64 op, .string nm, .slice ad n c] hx rfl hnews (fun u hu => ?_) (by unfold maxLen; omega) (by omega) hB (fun v' w' h2 h3 _ => ?_)
  · simp only [List.mem_cons, List.not_mem_nil, or_false] at hu
    rcases hu with rfl | rfl | rfl <;> rfl
  · rcases h2.2 with ⟨rfl, h0⟩ | ⟨g, cap, cur, rfl, -⟩
    · exact h none 0 0 w' h3
    · exact h _ _ _ w' h3

theorem OwnF.one {w : World} {B nb : Nat} {op : Int} {nm : ByteArray} {a : Option Addr} {n c : Nat} {t : Tree} (hk : w.heap[nb]? = some (.cells #[.int .i64 op, .string nm, .slice a n c] 24 (0, 0))) (hB : B ≤ nb)
    (hf : FormIn w (fun k => B ≤ k ∧ k ≠ nb) (.agg #[.int .i64 op, .string nm, .slice a n c]) t) : OwnF w B (.slice (some ⟨nb, 0, none⟩) 1 1) [t] := by
  obtain ⟨rfl, rfl, rfl⟩ := hf.shape
  refine ⟨[(a, c)], rfl, ⟨rfl, .inr ⟨nb, 1, _, rfl, hB, hk, Nat.le_refl _, by unfold maxLen; simp, rfl, rfl⟩⟩, fun i hi hi' => ?_⟩
  obtain rfl : i = 0 := by simp at hi; exact hi
  exact hf.mono fun k _ hk => ⟨hk.1, fun e => by
    have e' : nb = k := Option.some.inj e
    exact hk.2 e'.symm⟩
end Go.Proofs.YtilkpjcbmllgmaaDoor

namespace Go.Proofs.YtilkpjcbmllgmaaDoor
set_option linter.unusedVariables false
set_option linter.unusedSimpArgs false
open Go.RowKit

theorem rowP_none {op : Int} {sign : Rest} {SP : Rest → Option Tree × Rest} {r r1 : Rest} (h : SP r = (none, r1)) : rowP op sign SP r = (none, r1) := by unfold rowP; rw [h]
theorem rowP_left {op : Int} {sign : Rest} {SP : Rest → Option Tree × Rest} {r r1 : Rest} {f : Tree} (h : SP r = (some f, r1)) (ht : ¬ tok r1 = sign) : rowP op sign SP r = (some f, r1) := by
  unfold rowP; rw [h]; simp only; rw [if_neg ht]
/-- The formula of the parts. -/
def manyP (op : Int) : Option (List Tree) × Rest → Option Tree × Rest
  | (some l, r) => (some (.node op ⟨#[]⟩ l), r)
  | (none, r) => (none, r)
theorem rowP_many {op : Int} {sign : Rest} {SP : Rest → Option Tree × Rest} {r r1 : Rest} {f : Tree} (h : SP r = (some f, r1)) (ht : tok r1 = sign) : rowP op sign SP r = manyP op (rowLoop sign SP (r1.length + 1) [f] r1) := by
  unfold rowP; rw [h]; simp only; rw [if_pos ht]; rfl
theorem rowLoop_stop {sign : Rest} {SP : Rest → Option Tree × Rest} {n : Nat} {l : List Tree} {r : Rest} (h : ¬ tok r = sign) : rowLoop sign SP (n + 1) l r = (some l, r) := by
  unfold rowLoop; rw [if_neg h]
theorem rowLoop_fail {sign : Rest} {SP : Rest → Option Tree × Rest} {n : Nat} {l : List Tree} {r r1 : Rest} (h : tok r = sign) (hp : SP (nxt r) = (none, r1)) : rowLoop sign SP (n + 1) l r = (none, r1) := by
  unfold rowLoop; rw [if_pos h, hp]
theorem rowLoop_on {sign : Rest} {SP : Rest → Option Tree × Rest} {n : Nat} {l : List Tree} {r r1 : Rest} {f : Tree} (h : tok r = sign) (hp : SP (nxt r) = (some f, r1)) : rowLoop sign SP (n + 1) l r = rowLoop sign SP n (l ++ [f]) r1 := by
  conv => lhs; unfold rowLoop
  rw [if_pos h, hp]

/-- The loop's state: the parts so far. -/
structure RowSt (w : World) (b : Nat) (s : ByteArray) (sign : Rest) (SP : Rest → Option Tree × Rest) (goal : Option (List Tree) × Rest) (r0 : Rest) (ok : Bool) (v : Value) (wr : World) (g : Nat) : Prop where
  form : ∃ (a : Option Addr) (n c : Nat), v = .slice a n c
  res : wr.heap[w.heap.size]? = some (.cells #[.int .i64 0, .string ⟨#[]⟩, .slice none 0 0] 24 (0, 0))
  gr : w.grownBy wr (some b)
  yes : ok = true → ∃ (l : List Tree) (r : Rest), PAt wr b s r ∧ OwnF wr (w.heap.size + 1) v l ∧ rowLoop sign SP g l r = goal ∧ r.length < g ∧ r.length ≤ r0.length ∧ l.length + g ≤ 5000
  no : ok = false → ∃ r : Rest, PAt wr b s r ∧ goal = (none, r)

set_option maxRecDepth 100000 in
set_option maxHeartbeats 4000000 in
theorem row_walk (op : Int) (hop : 0 ≤ op) (hop' : op ≤ 9) (sign : Rest) (S : ByteArray) (hS : S.toList = sign) (hs0 : 0 < sign.length) (fp : Nat) (ep : Enters fp) (SP : Rest → Option Tree × Rest) (r : Rest)
    (hP0 : POk fp SP r) (hP : ∀ r', r'.length < r.length → POk fp SP r') (hlen : Shrinks SP) (w : World) (b : Nat) (s : ByteArray) (h : PAt w b s r) :
    Calls Tryd.prog 87 #[.pointer (some ⟨b, 0, none⟩), .int .i64 op, .string S, .func (.func fp) #[.pointer (some ⟨b, 0, none⟩)] #[]] w (PPost w b s (rowP op sign SP r)) := by
  have hlt := h.lt
  have H := hidIt h
  have HP0 := hidIt hP0
  have HP := hidIt hP
  have hcp : ∀ (args : Array Value) (w : World), (callFunc fp args).run Tryd.prog w = .ok (.enter fp args) w := ep
  have hI := hidIt (i64_small hop hop')
  have hlen' := hidIt hlen
  have HSS := hidIt hS
  clear hP0 hP h ep hlen hS
  go_enter Tryd.func87, Tryd.ntmps87
  go_wp2_with fail
  refine (HP0.out _ b s (H.out.alloc _)).mono ?_
  rintro e w1 ⟨o1, n1, a1, k1, c1, rfl, hf, hp1, hg1⟩
  cases hres : SP r with
  | mk o r1 =>
    rw [hres] at hf hp1
    simp only at hf hp1
    have HG1 : Hid (w.grownBy w1 (some b)) := only_trans (only_alloc (only_refl _ _) _) hg1
    have HK1 := hidIt (own_kept (heap_alloc_new w _) hg1 (by omega))
    have hlt1 := hp1.lt
    have hR1 := lt_of_block HK1.out
    obtain ⟨r0, r1', r2⟩ := cell_of3 HK1.out
    obtain ⟨f0, f1, f2⟩ := cells_free HK1.out
    obtain ⟨-, t2⟩ := hp1.cells
    have HP1 := hidIt hp1
    have HF1 : Hid (∀ f, o = some f → FormIn w1 (fun i => w.heap.size + 1 ≤ i) (.agg #[.int .i64 o1, .string n1, .slice a1 k1 c1]) f) := fun f hf' => (hf f hf').mono (fun i _ hi => by simpa using hi)
    have hlen2 : Hid (r1.length ≤ r.length) := by have := hlen'.out r; rw [hres] at this; exact this
    have HRES := hidIt hres
    clear hf hp1 hg1 hres
    obtain ⟨T, hT⟩ : ∃ T, T = (⟨(tok r1).toArray⟩ : ByteArray) := ⟨_, rfl⟩
    have hTl : Hid (T.toList = tok r1) := by show _ = _; rw [hT, Lib.toList_data]
    rw [← hT] at t2
    clear hT
    cases o with
    | none =>
      have HE : Hid (rowP op sign SP r = (none, r1)) := rowP_none HRES.out
      go_wp2_with fail
      refine bodyPost_ret (v := .tuple #[.agg #[.int .i64 o1, .string n1, .slice a1 k1 c1], .bool false]) (by simp [results, Tryd.results87, go_sem, r0, r1', r2, hR1]) rfl ?_
      have hgF := only_alloc (set_three w1 w.heap.size (.int .i64 o1) (.string n1) (.slice a1 k1 c1)) (.cells #[.int .i64 o1, .string n1, .slice a1 k1 c1] 24)
      refine ⟨o1, n1, a1, k1, c1, by rw [HE.out]; rfl, fun f hf => ?_, ?_, only_new HG1.out hgF (Nat.le_refl _)⟩
      · rw [HE.out] at hf; cases hf
      · rw [HE.out]
        exact HP1.out.kept hgF (fun e => by injection e with e; omega) (fun e => by injection e with e; omega)
    | some f =>
      have HF := hidIt (HF1.out f rfl)
      by_cases ht : tok r1 = sign
      · have hq : (T.toList == S.toList) = true := by rw [hTl.out, HSS.out, ht]; exact beq_self_eq_true _
        have HE : Hid (rowP op sign SP r = manyP op (rowLoop sign SP (r1.length + 1) [f] r1)) := rowP_many HRES.out ht
        clear ht
        go_wp2_with fail
        have hst : Hid (RowSt w b s sign SP (rowLoop sign SP (r1.length + 1) [f] r1) r true (.slice (some ⟨w1.heap.size + 1, 0, none⟩) 1 1) ((w1.alloc (.cells #[.int .i64 o1, .string n1, .slice a1 k1 c1] 24)).alloc (.cells #[.int .i64 o1, .string n1, .slice a1 k1 c1] 24)) (r1.length + 1)) := by
          have hb2 : Below w1.heap.size w1 ((w1.alloc (.cells #[.int .i64 o1, .string n1, .slice a1 k1 c1] 24)).alloc (.cells #[.int .i64 o1, .string n1, .slice a1 k1 c1] 24)) := ((Below.refl _ _).alloc (Nat.le_refl _) _).alloc (by simp) _
          refine ⟨⟨_, 1, 1, rfl⟩, blk_kept HK1.out hb2, only_trans HG1.out (only_of_below hb2 _), fun _ => ⟨[f], r1, HP1.out.go hb2, ?_, rfl, by omega, hlen2.out, by have := HP1.out.len; simp; omega⟩, fun e => by cases e⟩
          exact OwnF.one (heap_alloc_at (by simp)) (by omega) ((HF.out.mono (S' := fun k => w.heap.size + 1 ≤ k ∧ k ≠ w1.heap.size + 1) (fun i hi hS => ⟨hS, by omega⟩)).go hb2)
        generalize hgoal : rowLoop sign SP (r1.length + 1) [f] r1 = goal at HE hst
        clear HK1 HP1 HF HF1 HG1 hlt1 hR1 r0 r1' r2 f0 f1 f2 t2 hq hgoal
        generalize ((w1.alloc (.cells #[.int .i64 o1, .string n1, .slice a1 k1 c1] 24)).alloc (.cells #[.int .i64 o1, .string n1, .slice a1 k1 c1] 24)) = W at *
        go_loopg [11, 12] (r1.length + 1) (fun g s11 s12 wr => ∃ okb : Bool, s11 = .bool okb ∧ Hid (RowSt w b s sign SP goal r okb s12 wr g))
        case atStart => exact ⟨true, rfl, hst⟩
        case round =>
          clear hst
          obtain ⟨okb, rfl, hst⟩ := hrel
          obtain ⟨av, nv, cv, rfl⟩ := hst.out.form
          have HK := hidIt hst.out.res
          have hR := lt_of_block HK.out
          obtain ⟨r0, r1', r2⟩ := cell_of3 HK.out
          obtain ⟨f0, f1, f2⟩ := cells_free HK.out
          cases okb with
          | false =>
            obtain ⟨r', hp, hgo⟩ := hst.out.no rfl
            have HP' := hidIt hp
            have HGO := hidIt hgo
            clear hp hgo
            go_wp2_with fail
            refine bodyPost_ret (v := .tuple #[.agg #[.int .i64 op, .string ⟨#[]⟩, .slice av nv cv], .bool false]) (by simp [results, Tryd.results87, go_sem, r0, r1', r2, hR]) rfl ?_
            have hgF := set_three wr w.heap.size (.int .i64 op) (.string ⟨#[]⟩) (.slice av nv cv)
            have HE1 : rowP op sign SP r = (none, r') := by rw [HE.out, HGO.out]; rfl
            refine ⟨op, ⟨#[]⟩, av, nv, cv, by rw [HE1]; rfl, fun f' hf => ?_, ?_, only_new hst.out.gr hgF (Nat.le_refl _)⟩
            · rw [HE1] at hf; cases hf
            · rw [HE1]
              exact HP'.out.kept hgF (fun e => by injection e with e; omega) (fun e => by injection e with e; omega)
          | true =>
            obtain ⟨l, r', hp, hown, hloop, hg1, hg2, hg3⟩ := hst.out.yes rfl
            have HP' := hidIt hp
            have HOWN := hidIt hown
            have HLOOP := hidIt hloop
            have hltr := hp.lt
            obtain ⟨-, t2⟩ := hp.cells
            obtain ⟨T', hT'⟩ : ∃ T', T' = (⟨(tok r').toArray⟩ : ByteArray) := ⟨_, rfl⟩
            have hTl' : Hid (T'.toList = tok r') := by show _ = _; rw [hT', Lib.toList_data]
            rw [← hT'] at t2
            clear hp hown hloop hT'
            obtain ⟨g', hg'⟩ : ∃ g', gk = g' + 1 := ⟨gk - 1, by omega⟩
            by_cases ht' : tok r' = sign
            · have hq' : (T'.toList == S.toList) = true := by rw [hTl'.out, HSS.out, ht']; exact beq_self_eq_true _
              have HT' := hidIt ht'
              clear ht'
              go_wp2_with fail
              refine (next_at HP'.out).mono ?_
              rintro e w3 ⟨rfl, hp3, hgn⟩
              have HP3 := hidIt hp3
              have HOWN3 := hidIt (HOWN.out.kept hgn (fun g e => by injection e with e; omega))
              have HG3 := hidIt (only_trans hst.out.gr hgn)
              have HK3 := hidIt (own_kept HK.out hgn (by omega))
              have hnl : Hid ((nxt r').length < r.length) := Nat.lt_of_lt_of_le (nxt_lt hs0 HT'.out) hg2
              have hnl2 : Hid ((nxt r').length < r'.length) := nxt_lt hs0 HT'.out
              have hlt3 := hp3.lt
              have hR3 := lt_of_block HK3.out
              clear hp3 hgn r0 r1' r2 f0 f1 f2 t2 hq'
              go_wp2_with fail
              refine (HP.out _ hnl.out _ b s (HP3.out.alloc _)).mono ?_
              rintro e w4 ⟨o4, n4, a4, k4, c4, rfl, hf4, hp4, hg4⟩
              cases hres4 : SP (nxt r') with
              | mk o4' r4 =>
                rw [hres4] at hf4 hp4
                simp only at hf4 hp4
                have hlen4 : Hid (r4.length ≤ (nxt r').length) := by have := hlen'.out (nxt r'); rw [hres4] at this; exact this
                have HRES4 := hidIt hres4
                have HF4 := hidIt hf4
                have HP4 := hidIt hp4
                have HG4 : Hid (w3.grownBy w4 (some b)) := only_trans (only_alloc (only_refl _ _) _) hg4
                have HL4 := hidIt (own_kept (heap_alloc_new w3 _) hg4 (by omega))
                have hL4 := lt_of_block HL4.out
                obtain ⟨l0, l1, l2⟩ := cell_of3 HL4.out
                obtain ⟨g0, g1, g2⟩ := cells_free HL4.out
                clear hf4 hp4 hg4 hres4
                cases o4' with
                | none =>
                  have hs3 := set_three w4 w3.heap.size (.int .i64 o4) (.string n4) (.slice a4 k4 c4)
                  have HW : Hid (w4.grownBy ((((w4.setCell ⟨w3.heap.size, 0, none⟩ (.int .i64 o4)).setCell ⟨w3.heap.size, 1, none⟩ (.string n4)).setCell ⟨w3.heap.size, 2, none⟩ (.slice a4 k4 c4)).alloc (.cells #[.int .i64 o4, .string n4, .slice a4 k4 c4] 24)) (some w3.heap.size)) := only_alloc hs3 _
                  have HW3 : Hid (w3.grownBy ((((w4.setCell ⟨w3.heap.size, 0, none⟩ (.int .i64 o4)).setCell ⟨w3.heap.size, 1, none⟩ (.string n4)).setCell ⟨w3.heap.size, 2, none⟩ (.slice a4 k4 c4)).alloc (.cells #[.int .i64 o4, .string n4, .slice a4 k4 c4] 24)) (some b)) := only_new HG4.out HW.out (Nat.le_refl _)
                  have HOWNW := hidIt (HOWN3.out.kept HW3.out (fun g e => by injection e with e; omega))
                  have HPW := hidIt (HP4.out.kept HW.out (fun e => by injection e with e; omega) (fun e => by injection e with e; omega))
                  have HKW := hidIt (own_kept (own_kept HK3.out HG4.out (by omega)) HW.out (by omega))
                  have HGW := hidIt (only_trans HG3.out HW3.out)
                  have HNW : Hid (((((w4.setCell ⟨w3.heap.size, 0, none⟩ (.int .i64 o4)).setCell ⟨w3.heap.size, 1, none⟩ (.string n4)).setCell ⟨w3.heap.size, 2, none⟩ (.slice a4 k4 c4)).alloc (.cells #[.int .i64 o4, .string n4, .slice a4 k4 c4] 24)).heap[w4.heap.size]? = some (.cells #[.int .i64 o4, .string n4, .slice a4 k4 c4] 24 (0, 0))) := heap_alloc_at (by simp [World.setCell])
                  have hbw : Hid (w.heap.size + 1 ≤ ((((w4.setCell ⟨w3.heap.size, 0, none⟩ (.int .i64 o4)).setCell ⟨w3.heap.size, 1, none⟩ (.string n4)).setCell ⟨w3.heap.size, 2, none⟩ (.slice a4 k4 c4)).alloc (.cells #[.int .i64 o4, .string n4, .slice a4 k4 c4] 24)).heap.size) := by have := HW3.out.size; show _ ≤ _; omega
                  clear hs3
                  go_wp2_with (at_builtin; refine wpList_append_junk rfl _ _ rfl (w.heap.size + 1) _ l rfl HOWNW.out _ 1 rfl HNW.out (by omega) hbw.out ?_)
                  intro a5 n5 c5 w5 hg5
                  have hob := HOWNW.out.block
                  have HG5 : Hid (w.grownBy w5 (some b)) := by
                    cases hv : (Value.slice av nv cv).ownBlock with
                    | none => rw [hv] at hg5; exact only_trans HGW.out ⟨hg5.os, hg5.tape, hg5.output, hg5.size, fun i hi _ => hg5.block i hi (by simp)⟩
                    | some g => rw [hv] at hg5; exact only_new HGW.out hg5 (by have := (hob g hv).1; omega)
                  have HP5 := hidIt (HPW.out.kept hg5 (fun e => by have := (hob b e).1; omega) (fun e => by have := (hob 0 e).1; omega))
                  have HK5 : Hid (w5.heap[w.heap.size]? = some (.cells #[.int .i64 0, .string ⟨#[]⟩, .slice none 0 0] 24 (0, 0))) := by
                    show _ = _
                    rw [hg5.block _ (lt_of_block HKW.out) (fun e => by have := (hob _ e.symm).1; omega)]
                    exact HKW.out
                  have HGO : Hid (goal = (none, r4)) := by
                    have := HLOOP.out
                    rw [hg', rowLoop_fail HT'.out HRES4.out] at this
                    exact this.symm
                  clear hg5 hob l0 l1 l2 g0 g1 g2
                  go_wp2_with fail
                  go_roundg 0
                  case measure => omega
                  case rel => exact ⟨false, rfl, ⟨⟨a5, n5, c5, rfl⟩, HK5.out, HG5.out, (fun e => by cases e), fun _ => ⟨r4, HP5.out, HGO.out⟩⟩⟩
                | some f4 =>
                  have hs3 := set_three w4 w3.heap.size (.int .i64 o4) (.string n4) (.slice a4 k4 c4)
                  have HW : Hid (w4.grownBy ((((w4.setCell ⟨w3.heap.size, 0, none⟩ (.int .i64 o4)).setCell ⟨w3.heap.size, 1, none⟩ (.string n4)).setCell ⟨w3.heap.size, 2, none⟩ (.slice a4 k4 c4)).alloc (.cells #[.int .i64 o4, .string n4, .slice a4 k4 c4] 24)) (some w3.heap.size)) := only_alloc hs3 _
                  have HW3 : Hid (w3.grownBy ((((w4.setCell ⟨w3.heap.size, 0, none⟩ (.int .i64 o4)).setCell ⟨w3.heap.size, 1, none⟩ (.string n4)).setCell ⟨w3.heap.size, 2, none⟩ (.slice a4 k4 c4)).alloc (.cells #[.int .i64 o4, .string n4, .slice a4 k4 c4] 24)) (some b)) := only_new HG4.out HW.out (Nat.le_refl _)
                  have HOWNW := hidIt (HOWN3.out.kept HW3.out (fun g e => by injection e with e; omega))
                  have HPW := hidIt (HP4.out.kept HW.out (fun e => by injection e with e; omega) (fun e => by injection e with e; omega))
                  have HKW := hidIt (own_kept (own_kept HK3.out HG4.out (by omega)) HW.out (by omega))
                  have HGW := hidIt (only_trans HG3.out HW3.out)
                  have HNW : Hid (((((w4.setCell ⟨w3.heap.size, 0, none⟩ (.int .i64 o4)).setCell ⟨w3.heap.size, 1, none⟩ (.string n4)).setCell ⟨w3.heap.size, 2, none⟩ (.slice a4 k4 c4)).alloc (.cells #[.int .i64 o4, .string n4, .slice a4 k4 c4] 24)).heap[w4.heap.size]? = some (.cells #[.int .i64 o4, .string n4, .slice a4 k4 c4] 24 (0, 0))) := heap_alloc_at (by simp [World.setCell])
                  have hbw : Hid (w.heap.size + 1 ≤ ((((w4.setCell ⟨w3.heap.size, 0, none⟩ (.int .i64 o4)).setCell ⟨w3.heap.size, 1, none⟩ (.string n4)).setCell ⟨w3.heap.size, 2, none⟩ (.slice a4 k4 c4)).alloc (.cells #[.int .i64 o4, .string n4, .slice a4 k4 c4] 24)).heap.size) := by have := HW3.out.size; show _ ≤ _; omega
                  have HFW : Hid (FormIn ((((w4.setCell ⟨w3.heap.size, 0, none⟩ (.int .i64 o4)).setCell ⟨w3.heap.size, 1, none⟩ (.string n4)).setCell ⟨w3.heap.size, 2, none⟩ (.slice a4 k4 c4)).alloc (.cells #[.int .i64 o4, .string n4, .slice a4 k4 c4] 24)) (fun k => w.heap.size + 1 ≤ k ∧ (Value.slice av nv cv).ownBlock ≠ some k) (.agg #[.int .i64 o4, .string n4, .slice a4 k4 c4]) f4) :=
                    (((HF4.out f4 rfl).mono (S' := fun i => w3.heap.size + 1 ≤ i) (fun i _ hi => by simpa using hi)).over (w1 := w3) HW.out (by omega)).mono (fun i _ hi => ⟨by omega, fun e => by have := (HOWN3.out.block i e).2; omega⟩)
                  clear hs3
                  go_wp2_with (at_builtin; refine wpList_append_form rfl _ _ rfl (w.heap.size + 1) _ l rfl HOWNW.out _ 1 rfl HNW.out f4 HFW.out (by omega) hbw.out ?_)
                  intro v5 w5 hown5 hg5 hbl5
                  have hob := HOWNW.out.block
                  have HG5 : Hid (w.grownBy w5 (some b)) := by
                    cases hv : (Value.slice av nv cv).ownBlock with
                    | none => rw [hv] at hg5; exact only_trans HGW.out ⟨hg5.os, hg5.tape, hg5.output, hg5.size, fun i hi _ => hg5.block i hi (by simp)⟩
                    | some g => rw [hv] at hg5; exact only_new HGW.out hg5 (by have := (hob g hv).1; omega)
                  have HP5 := hidIt (HPW.out.kept hg5 (fun e => by have := (hob b e).1; omega) (fun e => by have := (hob 0 e).1; omega))
                  have HK5 : Hid (w5.heap[w.heap.size]? = some (.cells #[.int .i64 0, .string ⟨#[]⟩, .slice none 0 0] 24 (0, 0))) := by
                    show _ = _
                    rw [hg5.block _ (lt_of_block HKW.out) (fun e => by have := (hob _ e.symm).1; omega)]
                    exact HKW.out
                  have HLO : Hid (rowLoop sign SP g' (l ++ [f4]) r4 = goal) := by
                    have := HLOOP.out
                    rw [hg', rowLoop_on HT'.out HRES4.out] at this
                    exact this
                  have HO5 := hidIt hown5
                  have HV5 : Hid (∃ a n c, v5 = Value.slice a n c) := by
                    obtain ⟨a, c, h, -⟩ := hown5.form
                    exact ⟨a, _, c, h⟩
                  have hlen5 := hlen4.out
                  have hnl3 := hnl2.out
                  clear hg5 hob l0 l1 l2 g0 g1 g2 hown5 hbl5
                  go_wp2_with fail
                  go_roundg g'
                  case measure => omega
                  case rel => exact ⟨true, rfl, ⟨HV5.out, HK5.out, HG5.out, fun _ => ⟨l ++ [f4], r4, HP5.out, HO5.out, HLO.out, by omega, by omega, by rw [List.length_append]; simp; omega⟩, fun e => by cases e⟩⟩
            · have hq' : (T'.toList == S.toList) = false := by rw [hTl'.out, HSS.out]; exact beq_eq_false_iff_ne.2 ht'
              have HGO : Hid (goal = (some l, r')) := by
                have := HLOOP.out
                rw [hg', rowLoop_stop ht'] at this
                exact this.symm
              clear ht' hg'
              obtain ⟨a', c', hv, hlc, hcm, hforms⟩ := HOWN.out.form
              injection hv with e1 e2 e3
              subst e1 e2 e3
              have HFORMS := hidIt hforms
              clear hforms
              go_wp2_with fail
              refine bodyPost_ret (v := .tuple #[.agg #[.int .i64 op, .string ⟨#[]⟩, .slice av l.length cv], .bool true]) (by simp [results, Tryd.results87, go_sem, r0, r1', r2, hR]) rfl ?_
              have hgF := set_three wr w.heap.size (.int .i64 op) (.string ⟨#[]⟩) (.slice av l.length cv)
              have HE1 : rowP op sign SP r = (some (.node op ⟨#[]⟩ l), r') := by rw [HE.out, HGO.out]; rfl
              refine ⟨op, ⟨#[]⟩, av, l.length, cv, by rw [HE1]; rfl, fun f' hf => ?_, ?_, only_new hst.out.gr hgF (Nat.le_refl _)⟩
              · rw [HE1] at hf
                obtain rfl := Option.some.inj hf
                refine (FormIn.mk (HFORMS.out.kept fun i hi hl => hgF.block i hl (fun e => by injection e with e; omega)) rfl hI.out nil_le hlc hcm).mono fun i _ hi => by omega
              · rw [HE1]
                exact HP'.out.kept hgF (fun e => by injection e with e; omega) (fun e => by injection e with e; omega)
      · have hq : (T.toList == S.toList) = false := by rw [hTl.out, HSS.out]; exact beq_eq_false_iff_ne.2 ht
        have HE : Hid (rowP op sign SP r = (some f, r1)) := rowP_left HRES.out ht
        clear ht
        go_wp2_with fail
        refine bodyPost_ret (v := .tuple #[.agg #[.int .i64 o1, .string n1, .slice a1 k1 c1], .bool true]) (by simp [results, Tryd.results87, go_sem, r0, r1', r2, hR1]) rfl ?_
        have hgF := only_alloc (set_three w1 w.heap.size (.int .i64 o1) (.string n1) (.slice a1 k1 c1)) (.cells #[.int .i64 o1, .string n1, .slice a1 k1 c1] 24)
        refine ⟨o1, n1, a1, k1, c1, by rw [HE.out]; rfl, fun f' hf => ?_, ?_, only_new HG1.out hgF (Nat.le_refl _)⟩
        · rw [HE.out] at hf
          obtain rfl : f = f' := Option.some.inj hf
          exact (HF.out.over (w1 := w) hgF (by omega)).mono (fun i _ hi => by omega)
        · rw [HE.out]
          exact HP1.out.kept hgF (fun e => by injection e with e; omega) (fun e => by injection e with e; omega)
end Go.Proofs.YtilkpjcbmllgmaaDoor

namespace Go.Proofs.YtilkpjcbmllgmaaDoor
set_option linter.unusedVariables false
set_option linter.unusedSimpArgs false
open Go.RowKit

theorem enters_impl : Enters 60 := enters_of Tryd.func60 (by kernel_rfl) rfl
theorem enters_disj : Enters 77 := enters_of Tryd.func77 (by kernel_rfl) rfl
theorem enters_conj : Enters 88 := enters_of Tryd.func88 (by kernel_rfl) rfl
theorem enters_neg : Enters 103 := enters_of Tryd.func103 (by kernel_rfl) rfl
theorem ba_toList (l : List UInt8) : (⟨l.toArray⟩ : ByteArray).toList = l := by rw [Lib.toList_data]

set_option maxRecDepth 100000 in
set_option maxHeartbeats 1000000 in
theorem equiv_walk (n : Nat) (r : Rest) (h0 : POk 60 (pF n 1) r) (h1 : ∀ r', r'.length < r.length → POk 60 (pF n 1) r') : POk 41 (pF (n + 1) 0) r := by
  intro w b s h
  have hlt := h.lt
  have H := hidIt h
  have hmf : ∀ (fn : Fn) (first cap : Array Value) (w : World), (Instr.makeFunc fn first cap).run Tryd.prog w = .ok (.func fn first cap) w := fun _ _ _ _ => rfl
  have HC : Hid (Calls Tryd.prog 59 #[.pointer (some ⟨b, 0, none⟩), .int .i64 8, .string ⟨#[60, 45, 62]⟩, .func (.func 60) #[.pointer (some ⟨b, 0, none⟩)] #[], .func (.func 60) #[.pointer (some ⟨b, 0, none⟩)] #[]] (w.alloc (.cells #[.int .i64 0, .string ⟨#[]⟩, .slice none 0 0] 24)) (PPost (w.alloc (.cells #[.int .i64 0, .string ⟨#[]⟩, .slice none 0 0] 24)) b s (pairP 8 [60, 45, 62] (pF n 1) (pF n 1) r))) := pair_walk 8 (by omega) (by omega) [60, 45, 62] ⟨#[60, 45, 62]⟩ (ba_toList [60, 45, 62]) (by decide) _ _ enters_impl enters_impl (pF n 1) (pF n 1) r h0 h1 (pF_len n 1 r) _ b s (h.alloc _)
  have HE : Hid (pF (n + 1) 0 r = pairP 8 [60, 45, 62] (pF n 1) (pF n 1) r) := rfl
  clear h
  go_enter Tryd.func41, Tryd.ntmps41
  go_wp2_with fail
  refine HC.out.mono ?_
  rintro e w2 ⟨op, nm, a, k, c, rfl, hf, hp2, hg2⟩
  have HF2 := hidIt hf
  have HP2 := hidIt hp2
  have HG2 : Hid (w.grownBy w2 (some b)) := only_trans (only_alloc (only_refl _ _) _) hg2
  have HK2 := hidIt (own_kept (heap_alloc_new w _) hg2 (by omega))
  have hR := lt_of_block HK2.out
  obtain ⟨r0, r1, r2⟩ := cell_of3 HK2.out
  obtain ⟨f0, f1, f2⟩ := cells_free HK2.out
  clear hf hp2 hg2 hmf HC
  generalize hok : (pairP 8 [60, 45, 62] (pF n 1) (pF n 1) r).1.isSome = okb at *
  have HOK := hidIt hok
  clear hok
  go_wp2_with fail
  refine bodyPost_ret (v := .tuple #[.agg #[.int .i64 op, .string nm, .slice a k c], .bool okb]) (by simp [results, Tryd.results41, go_sem, r0, r1, r2, hR]) rfl ?_
  have hgF := set_three w2 w.heap.size (.int .i64 op) (.string nm) (.slice a k c)
  refine ⟨op, nm, a, k, c, by rw [HE.out, HOK.out], fun f hf => ?_, ?_, only_new HG2.out hgF (Nat.le_refl _)⟩
  · rw [HE.out] at hf
    exact ((HF2.out f hf).over (w1 := w) hgF (by simp)).mono (fun i _ hi => by simp at hi; omega)
  · rw [HE.out]
    exact HP2.out.kept hgF (fun e => by injection e with e; omega) (fun e => by injection e with e; omega)

set_option maxRecDepth 100000 in
set_option maxHeartbeats 1000000 in
theorem impl_walk (n : Nat) (r : Rest) (h0 : POk 77 (pF n 2) r) (h1 : ∀ r', r'.length < r.length → POk 60 (pF n 1) r') : POk 60 (pF (n + 1) 1) r := by
  intro w b s h
  have hlt := h.lt
  have H := hidIt h
  have hmf : ∀ (fn : Fn) (first cap : Array Value) (w : World), (Instr.makeFunc fn first cap).run Tryd.prog w = .ok (.func fn first cap) w := fun _ _ _ _ => rfl
  have HC : Hid (Calls Tryd.prog 59 #[.pointer (some ⟨b, 0, none⟩), .int .i64 7, .string ⟨#[45, 62]⟩, .func (.func 77) #[.pointer (some ⟨b, 0, none⟩)] #[], .func (.func 60) #[.pointer (some ⟨b, 0, none⟩)] #[]] (w.alloc (.cells #[.int .i64 0, .string ⟨#[]⟩, .slice none 0 0] 24)) (PPost (w.alloc (.cells #[.int .i64 0, .string ⟨#[]⟩, .slice none 0 0] 24)) b s (pairP 7 [45, 62] (pF n 2) (pF n 1) r))) := pair_walk 7 (by omega) (by omega) [45, 62] ⟨#[45, 62]⟩ (ba_toList [45, 62]) (by decide) _ _ enters_disj enters_impl (pF n 2) (pF n 1) r h0 h1 (pF_len n 2 r) _ b s (h.alloc _)
  have HE : Hid (pF (n + 1) 1 r = pairP 7 [45, 62] (pF n 2) (pF n 1) r) := rfl
  clear h
  go_enter Tryd.func60, Tryd.ntmps60
  go_wp2_with fail
  refine HC.out.mono ?_
  rintro e w2 ⟨op, nm, a, k, c, rfl, hf, hp2, hg2⟩
  have HF2 := hidIt hf
  have HP2 := hidIt hp2
  have HG2 : Hid (w.grownBy w2 (some b)) := only_trans (only_alloc (only_refl _ _) _) hg2
  have HK2 := hidIt (own_kept (heap_alloc_new w _) hg2 (by omega))
  have hR := lt_of_block HK2.out
  obtain ⟨r0, r1, r2⟩ := cell_of3 HK2.out
  obtain ⟨f0, f1, f2⟩ := cells_free HK2.out
  clear hf hp2 hg2 hmf HC
  generalize hok : (pairP 7 [45, 62] (pF n 2) (pF n 1) r).1.isSome = okb at *
  have HOK := hidIt hok
  clear hok
  go_wp2_with fail
  refine bodyPost_ret (v := .tuple #[.agg #[.int .i64 op, .string nm, .slice a k c], .bool okb]) (by simp [results, Tryd.results60, go_sem, r0, r1, r2, hR]) rfl ?_
  have hgF := set_three w2 w.heap.size (.int .i64 op) (.string nm) (.slice a k c)
  refine ⟨op, nm, a, k, c, by rw [HE.out, HOK.out], fun f hf => ?_, ?_, only_new HG2.out hgF (Nat.le_refl _)⟩
  · rw [HE.out] at hf
    exact ((HF2.out f hf).over (w1 := w) hgF (by simp)).mono (fun i _ hi => by simp at hi; omega)
  · rw [HE.out]
    exact HP2.out.kept hgF (fun e => by injection e with e; omega) (fun e => by injection e with e; omega)

set_option maxRecDepth 100000 in
set_option maxHeartbeats 1000000 in
theorem disj_walk (n : Nat) (r : Rest) (h0 : POk 88 (pF n 3) r) (h1 : ∀ r', r'.length < r.length → POk 88 (pF n 3) r') : POk 77 (pF (n + 1) 2) r := by
  intro w b s h
  have hlt := h.lt
  have H := hidIt h
  have hmf : ∀ (fn : Fn) (first cap : Array Value) (w : World), (Instr.makeFunc fn first cap).run Tryd.prog w = .ok (.func fn first cap) w := fun _ _ _ _ => rfl
  have HC : Hid (Calls Tryd.prog 87 #[.pointer (some ⟨b, 0, none⟩), .int .i64 6, .string ⟨#[124]⟩, .func (.func 88) #[.pointer (some ⟨b, 0, none⟩)] #[]] (w.alloc (.cells #[.int .i64 0, .string ⟨#[]⟩, .slice none 0 0] 24)) (PPost (w.alloc (.cells #[.int .i64 0, .string ⟨#[]⟩, .slice none 0 0] 24)) b s (rowP 6 [124] (pF n 3) r))) := row_walk 6 (by omega) (by omega) [124] ⟨#[124]⟩ (ba_toList [124]) (by decide) _ enters_conj (pF n 3) r h0 h1 (pF_len n 3) _ b s (h.alloc _)
  have HE : Hid (pF (n + 1) 2 r = rowP 6 [124] (pF n 3) r) := rfl
  clear h
  go_enter Tryd.func77, Tryd.ntmps77
  go_wp2_with fail
  refine HC.out.mono ?_
  rintro e w2 ⟨op, nm, a, k, c, rfl, hf, hp2, hg2⟩
  have HF2 := hidIt hf
  have HP2 := hidIt hp2
  have HG2 : Hid (w.grownBy w2 (some b)) := only_trans (only_alloc (only_refl _ _) _) hg2
  have HK2 := hidIt (own_kept (heap_alloc_new w _) hg2 (by omega))
  have hR := lt_of_block HK2.out
  obtain ⟨r0, r1, r2⟩ := cell_of3 HK2.out
  obtain ⟨f0, f1, f2⟩ := cells_free HK2.out
  clear hf hp2 hg2 hmf HC
  generalize hok : (rowP 6 [124] (pF n 3) r).1.isSome = okb at *
  have HOK := hidIt hok
  clear hok
  go_wp2_with fail
  refine bodyPost_ret (v := .tuple #[.agg #[.int .i64 op, .string nm, .slice a k c], .bool okb]) (by simp [results, Tryd.results77, go_sem, r0, r1, r2, hR]) rfl ?_
  have hgF := set_three w2 w.heap.size (.int .i64 op) (.string nm) (.slice a k c)
  refine ⟨op, nm, a, k, c, by rw [HE.out, HOK.out], fun f hf => ?_, ?_, only_new HG2.out hgF (Nat.le_refl _)⟩
  · rw [HE.out] at hf
    exact ((HF2.out f hf).over (w1 := w) hgF (by simp)).mono (fun i _ hi => by simp at hi; omega)
  · rw [HE.out]
    exact HP2.out.kept hgF (fun e => by injection e with e; omega) (fun e => by injection e with e; omega)

set_option maxRecDepth 100000 in
set_option maxHeartbeats 1000000 in
theorem conj_walk (n : Nat) (r : Rest) (h0 : POk 103 (pF n 4) r) (h1 : ∀ r', r'.length < r.length → POk 103 (pF n 4) r') : POk 88 (pF (n + 1) 3) r := by
  intro w b s h
  have hlt := h.lt
  have H := hidIt h
  have hmf : ∀ (fn : Fn) (first cap : Array Value) (w : World), (Instr.makeFunc fn first cap).run Tryd.prog w = .ok (.func fn first cap) w := fun _ _ _ _ => rfl
  have HC : Hid (Calls Tryd.prog 87 #[.pointer (some ⟨b, 0, none⟩), .int .i64 5, .string ⟨#[38]⟩, .func (.func 103) #[.pointer (some ⟨b, 0, none⟩)] #[]] (w.alloc (.cells #[.int .i64 0, .string ⟨#[]⟩, .slice none 0 0] 24)) (PPost (w.alloc (.cells #[.int .i64 0, .string ⟨#[]⟩, .slice none 0 0] 24)) b s (rowP 5 [38] (pF n 4) r))) := row_walk 5 (by omega) (by omega) [38] ⟨#[38]⟩ (ba_toList [38]) (by decide) _ enters_neg (pF n 4) r h0 h1 (pF_len n 4) _ b s (h.alloc _)
  have HE : Hid (pF (n + 1) 3 r = rowP 5 [38] (pF n 4) r) := rfl
  clear h
  go_enter Tryd.func88, Tryd.ntmps88
  go_wp2_with fail
  refine HC.out.mono ?_
  rintro e w2 ⟨op, nm, a, k, c, rfl, hf, hp2, hg2⟩
  have HF2 := hidIt hf
  have HP2 := hidIt hp2
  have HG2 : Hid (w.grownBy w2 (some b)) := only_trans (only_alloc (only_refl _ _) _) hg2
  have HK2 := hidIt (own_kept (heap_alloc_new w _) hg2 (by omega))
  have hR := lt_of_block HK2.out
  obtain ⟨r0, r1, r2⟩ := cell_of3 HK2.out
  obtain ⟨f0, f1, f2⟩ := cells_free HK2.out
  clear hf hp2 hg2 hmf HC
  generalize hok : (rowP 5 [38] (pF n 4) r).1.isSome = okb at *
  have HOK := hidIt hok
  clear hok
  go_wp2_with fail
  refine bodyPost_ret (v := .tuple #[.agg #[.int .i64 op, .string nm, .slice a k c], .bool okb]) (by simp [results, Tryd.results88, go_sem, r0, r1, r2, hR]) rfl ?_
  have hgF := set_three w2 w.heap.size (.int .i64 op) (.string nm) (.slice a k c)
  refine ⟨op, nm, a, k, c, by rw [HE.out, HOK.out], fun f hf => ?_, ?_, only_new HG2.out hgF (Nat.le_refl _)⟩
  · rw [HE.out] at hf
    exact ((HF2.out f hf).over (w1 := w) hgF (by simp)).mono (fun i _ hi => by simp at hi; omega)
  · rw [HE.out]
    exact HP2.out.kept hgF (fun e => by injection e with e; omega) (fun e => by injection e with e; omega)

/-- All methods, where so many calls are enough. -/
structure AllOk (n : Nat) : Prop where
  eqv : ∀ r : Rest, 8 * r.length + 7 ≤ n → POk 41 (pF n 0) r
  imp : ∀ r : Rest, 8 * r.length + 6 ≤ n → POk 60 (pF n 1) r
  dis : ∀ r : Rest, 8 * r.length + 5 ≤ n → POk 77 (pF n 2) r
  con : ∀ r : Rest, 8 * r.length + 4 ≤ n → POk 88 (pF n 3) r
  neg : ∀ r : Rest, 8 * r.length + 3 ≤ n → POk 103 (pF n 4) r
  pri : ∀ r : Rest, 8 * r.length + 2 ≤ n → POk 113 (pF n 5) r
  grp : ∀ r : Rest, 8 * r.length + 1 ≤ n → 0 < (tok r).length → POk 115 (pF n 6) r

theorem all_ok : ∀ n, AllOk n := by
  intro n
  induction n with
  | zero => exact ⟨fun r h => by omega, fun r h => by omega, fun r h => by omega, fun r h => by omega, fun r h => by omega, fun r h => by omega, fun r h => by omega⟩
  | succ n ih =>
    refine ⟨fun r h => equiv_walk n r (ih.imp r (by omega)) (fun r' h' => ih.imp r' (by omega)), fun r h => impl_walk n r (ih.dis r (by omega)) (fun r' h' => ih.imp r' (by omega)),
      fun r h => disj_walk n r (ih.con r (by omega)) (fun r' h' => ih.con r' (by omega)), fun r h => conj_walk n r (ih.neg r (by omega)) (fun r' h' => ih.neg r' (by omega)),
      fun r h => neg_walk n r (fun r' h' => ih.neg r' (by omega)) (ih.pri r (by omega)), fun r h => ?_, fun r h ht => group_walk n r (ih.eqv (nxt r) (by have := nxt_len r; omega))⟩
    by_cases ht : 0 < (tok r).length
    · exact prim_walk n r (fun _ => ih.grp r (by omega) ht)
    · exact prim_walk n r (fun e => absurd (by rw [e]; decide) ht)
end Go.Proofs.YtilkpjcbmllgmaaDoor
