/- A region that draws its order, in a class of worlds: one walk in the order of the text serves every order, where each operation leaves the world alone or is a call that gives one value and leaves a world of the class. Formulas as trees, and how they lie in memory. The reference's Same, at two formulas whatever. formula.Size and Depth. Which formulas are well-formed, and Validate. withinLimits, and Validate. Maps of strings to bools that a call made. The value of a formula: formula.value and Eval. A region that draws its order, whose operations may give values that hang on the order (new memory's addresses): each such value is known by a relation of its own, laid ahead; one walk in the order of the text serves every order. An operation may lean on the relations of those temporaries alone that it looks at. A row of strings that a call made. DERIVED: THE SHELF's CONTRACTS AT THIS DUMP, IN PLAIN WORDS (tools/lay-plain.mjs out of 'TryzShelf.lean', which tools/lay-shelf.mjs wrote): THE SAME DECLARATIONS UNDER THE SAME NAMES: 'import', 'namespace', 'open', 'def', 'theorem' AND NOTHING ELSE: no command of the shelf's: FOR A HAND-IN. Each laying: the table of numbers ('.._ren') and one theorem, a field a fact of the dump's own or the kernel's comparison; each contract: ONE APPLICATION. Texts of formulas: text, part, joined and Format of the program. Formulas that are built from numbers: what they are. Rows of formulas that a call makes. A list of formulas that a call owns, and append to it. append of one formula to a list that the call owns, as a run and at a step of a region that draws its order. Tokens: inWord and firstToken. The parser's state, and next. What the parser computes: the formula that a text begins with, if there is one, and what is left of the text. The parser's functions: negation, primary, group. -/
import Derived.BigQuiet
import Derived.WalkKit
import Derived.Lib.Strings
import Derived.Laws.EntriesVeiled
import Derived.Maps.Own
import Derived.Maps.OwnOps
import Derived.Maps.Views
import Derived.DeepKeys4
import Derived.WideKeyArgs
import Derived.Carry
import Derived.LoopTactic
import Derived.Laws.MakeOwn
import Derived.Shelf.Strings.Builder1
import Derived.Shelf.Strings.Builder2
import Derived.Shelf.Strings.OnBuilder
import Derived.Shelf.Small.Bits
import Derived.Shelf.Strings.BuilderF
import Derived.Shelf.Strings.BuilderK
import Derived.Shelf.Strings.Builder2Cap
import Derived.Shelf.Strconv.Itoa0
import Derived.Shelf.Sort.Plain
import Derived.Shelf.Strings.Prefix
import Derived.Shelf.Strings.BuilderCap
import Derived.Shelf.Slices.In.SortNone
import Derived.Shelf.SlIter.Nil
import Derived.Shelf.SortM.Plain
import Derived.Shelf.SortM.SortNone
import Derived.Ground.GgzProg
import Derived.Ground.SlgmProg
import Derived.Test.YtilkpjcbmllgmaaGreatDoorProg
import Derived.Laws.AppendOwn
import Derived.Laws.AppendOwnNone
import Derived.OwnWalk
import Derived.Deep.AppendLies
import Derived.Laws.Rows
import Derived.StillTailTactics
import Derived.Deep.LoopGhost
import Derived.Test.YtilkpjcbmllgmaaGreatDoorPvA

namespace Go.Proofs.YtilkpjcbmllgmaaGreatDoor
set_option linter.unusedVariables false
set_option linter.unusedSimpArgs false
open Go Go.RowKit

/-- A world of the class D. -/
structure In (D : World → Prop) where
  w : World
  h : D w

theorem wp_region_in {P : Program} (D : World → Prop) {id : Nat} {Q : Exit → Act → World → Prop} {a : Act} {w : World} {l : List Oper} (hm : P.follows .mixedOrders = true) (hB : Region.lexB .any l.toArray = true) (hD : D w.drew)
    (h : wpQuiet P l.toArray (fun w' => ∃ x : In D, w' = x.w) (fun a' => ∀ w', (∃ x : In D, w' = x.w) → Q .normal a' w') l a) : (Code.region id l.toArray true).wp P Q a w :=
  wp_region_quiet (C := fun w' => ∃ x : In D, w' = x.w) hm hB ⟨⟨_, hD⟩, rfl⟩ (by simpa using h)

/-- A callee's contract, met in a world of the class. -/
theorem Calls.in_of {P : Program} {f : FuncId} {args : Array Value} {D : World → Prop} {x : In D} {v : Value}
    (h : Calls P f args x.w fun e w' => e = .returned v ∧ D w') : Calls P f args x.w fun e w'' => e = .returned v ∧ ∃ y : In D, w'' = y.w :=
  h.mono fun _ w' ⟨he, hw⟩ => ⟨he, ⟨w', hw⟩, rfl⟩

/-- The worlds that come of W by making memory alone. -/
def Ext (W : World) : World → Prop := fun w' => Below W.heap.size W w'
theorem Ext.start (W : World) : Ext W W.drew := (Below.refl _ _).drew
theorem Ext.nonempty (W : World) : Nonempty (In (Ext W)) := ⟨⟨_, Ext.start W⟩⟩
theorem Ext.cell {W : World} {b o : Nat} {v : Value} (h : W.cell? ⟨b, o, none⟩ = some v) (y : In (Ext W)) : y.w.cell? ⟨b, o, none⟩ = some v :=
  (Below.cell (p := ⟨b, o, none⟩) y.h (World.block_lt_of_cell? W ⟨b, o, none⟩ h)).trans h
theorem Ext.call {P : Program} {f : FuncId} {args : Array Value} {W : World} {x : In (Ext W)} {v : Value}
    (h : Calls P f args x.w fun e w' => e = .returned v ∧ Below x.w.heap.size x.w w') : Calls P f args x.w fun e w'' => e = .returned v ∧ ∃ y : In (Ext W), w'' = y.w :=
  h.mono fun _ w' ⟨he, hw⟩ => ⟨he, ⟨w', Below.trans x.h (hw.mono (Below.size x.h))⟩, rfl⟩
end Go.Proofs.YtilkpjcbmllgmaaGreatDoor

namespace Go.Proofs.YtilkpjcbmllgmaaGreatDoor
set_option linter.unusedVariables false
set_option linter.unusedSimpArgs false
open Go.RowKit

/-- A formula as a tree. -/
inductive Tree where
  | node (op : Int) (name : ByteArray) (args : List Tree)

instance : Inhabited Tree := ⟨.node 0 ⟨#[]⟩ []⟩

theorem Tree.ind {m : Tree → Prop} (h : ∀ op name ts, (∀ t ∈ ts, m t) → m (.node op name ts)) : ∀ t, m t
  | .node op name ts => h op name ts (fun t ht => Tree.ind h t)
termination_by t => t
decreasing_by
  have := List.sizeOf_lt_of_mem ht
  simp
  omega

def Tree.op : Tree → Int | .node op _ _ => op
def Tree.name : Tree → ByteArray | .node _ s _ => s
def Tree.args : Tree → List Tree | .node _ _ ts => ts

theorem Tree.op_node (op : Int) (name : ByteArray) (ts : List Tree) : (Tree.node op name ts).op = op := rfl
theorem Tree.name_node (op : Int) (name : ByteArray) (ts : List Tree) : (Tree.node op name ts).name = name := rfl
theorem Tree.args_node (op : Int) (name : ByteArray) (ts : List Tree) : (Tree.node op name ts).args = ts := rfl

/-- What a call that had its argument boxed leaves. -/
theorem below_box {w w1 : World} {o : Obj} (hb : Below (w.alloc o).heap.size (w.alloc o) w1) : Below w.heap.size w w1 := ((Below.refl _ _).alloc (Nat.le_refl _) o).trans (hb.mono (by simp))

/-- A block that was laid ahead of a call that makes memory alone. -/
theorem laid_box {w w1 : World} {cs : Array Value} {t : TypeId} (hb : Below (w.alloc (.cells cs t)).heap.size (w.alloc (.cells cs t)) w1) : w1.heap[w.heap.size]? = some (.cells cs t (0, 0)) := by
  rw [hb.block w.heap.size (by simp)]
  exact heap_alloc_new w _
theorem blk_kept {w w1 : World} {b : Nat} {o : Obj} (h : w.heap[b]? = some o) (hb : Below w.heap.size w w1) : w1.heap[b]? = some o := by
  rw [hb.block b (lt_of_block h)]
  exact h
theorem heap_alloc_at {w : World} {o : Obj} {n : Nat} (h : n = w.heap.size) : (w.alloc o).heap[n]? = some o := by subst h; exact heap_alloc_new w o
theorem cell_of3 {w : World} {b : Nat} {x y z : Value} {t : TypeId} (h : w.heap[b]? = some (.cells #[x, y, z] t (0, 0))) : w.cell? ⟨b, 0, none⟩ = some x ∧ w.cell? ⟨b, 1, none⟩ = some y ∧ w.cell? ⟨b, 2, none⟩ = some z :=
  ⟨by simp [World.cell?, h], by simp [World.cell?, h], by simp [World.cell?, h]⟩

mutual
def Tree.nodes : Tree → Nat
  | .node _ _ ts => 1 + nodesL ts
def nodesL : List Tree → Nat
  | [] => 0
  | t :: ts => t.nodes + nodesL ts
end

theorem nodesL_append : ∀ (l m : List Tree), nodesL (l ++ m) = nodesL l + nodesL m
  | [], m => by simp [nodesL]
  | t :: l, m => by simp only [List.cons_append, nodesL, nodesL_append l m]; omega

theorem take_snoc' {α : Type} (l : List α) (k : Nat) (h : k < l.length) : l.take (k + 1) = l.take k ++ [l[k]] := List.take_succ_eq_append_getElem h

theorem nodesL_take (l : List Tree) (k : Nat) (h : k < l.length) : nodesL (l.take (k + 1)) = nodesL (l.take k) + (l[k]).nodes := by
  rw [take_snoc' l k h, nodesL_append]
  simp [nodesL]

theorem nodesL_take_le (l : List Tree) (k : Nat) : nodesL (l.take k) ≤ nodesL l := by
  have h := nodesL_append (l.take k) (l.drop k)
  rw [List.take_append_drop] at h
  omega

theorem Tree.nodes_pos (t : Tree) : 0 < t.nodes := by cases t; simp [Tree.nodes]; omega

theorem nodes_mem_le {l : List Tree} {t : Tree} (h : t ∈ l) : t.nodes ≤ nodesL l := by
  obtain ⟨k, hk, rfl⟩ := List.mem_iff_getElem.1 h
  have h1 := nodesL_take l k hk
  have h2 := nodesL_take_le l (k + 1)
  omega

theorem nodes_len_le (l : List Tree) : l.length ≤ nodesL l := by
  induction l with
  | nil => simp
  | cons t l ih => have := t.nodes_pos; simp only [List.length_cons, nodesL]; omega

mutual
def Tree.depth : Tree → Nat
  | .node _ _ ts => depthL ts
def depthL : List Tree → Nat
  | [] => 0
  | t :: ts => max (1 + t.depth) (depthL ts)
end

theorem depthL_append : ∀ (l m : List Tree), depthL (l ++ m) = max (depthL l) (depthL m)
  | [], m => by simp [depthL]
  | t :: l, m => by simp only [List.cons_append, depthL, depthL_append l m]; omega
theorem depthL_take (l : List Tree) (k : Nat) (h : k < l.length) : depthL (l.take (k + 1)) = max (depthL (l.take k)) (1 + (l[k]).depth) := by
  rw [take_snoc' l k h, depthL_append]
  simp [depthL]
theorem depthL_take_le (l : List Tree) (k : Nat) : depthL (l.take k) ≤ depthL l := by
  have h := depthL_append (l.take k) (l.drop k)
  rw [List.take_append_drop] at h
  omega
theorem depth_lt_nodes : ∀ t : Tree, t.depth < t.nodes := Tree.ind fun op name ts ih => by
  have key : ∀ l : List Tree, (∀ t ∈ l, t.depth < t.nodes) → depthL l ≤ nodesL l := by
    intro l hl
    induction l with
    | nil => simp [depthL]
    | cons t l ih2 =>
      have h1 := hl t (by simp)
      have h2 := ih2 fun t ht => hl t (by simp [ht])
      simp only [depthL, nodesL]
      omega
  have := key ts ih
  simp only [Tree.depth, Tree.nodes]
  omega

mutual
/-- Does every node pass the test? -/
def Tree.all (p : Tree → Bool) : Tree → Bool
  | .node op name ts => p (.node op name ts) && allL p ts
def allL (p : Tree → Bool) : List Tree → Bool
  | [] => true
  | t :: ts => t.all p && allL p ts
end
theorem allL_append (p : Tree → Bool) : ∀ (l m : List Tree), allL p (l ++ m) = (allL p l && allL p m)
  | [], m => by simp [allL]
  | t :: l, m => by simp only [List.cons_append, allL, allL_append p l m, Bool.and_assoc]
theorem allL_take (p : Tree → Bool) (l : List Tree) (k : Nat) (h : k < l.length) : allL p (l.take (k + 1)) = (allL p (l.take k) && (l[k]).all p) := by
  rw [take_snoc' l k h, allL_append]
  simp [allL]
theorem allL_take_false (p : Tree → Bool) (l : List Tree) (k : Nat) (h : allL p (l.take k) = false) : allL p l = false := by
  have h2 := allL_append p (l.take k) (l.drop k)
  rw [List.take_append_drop, h] at h2
  simpa using h2

/-- The value is the formula t in the world w; all cells that it reads lie in blocks of S. -/
inductive FormIn (w : World) (S : Nat → Prop) : Value → Tree → Prop
  | node (op : Int) (name : ByteArray) (a : Option Addr) (cap : Nat) (ts : List Tree) (b off : Nat) (o : Nat → Int) (s : Nat → ByteArray) (v : Nat → Value)
    (hop : I64 op) (hname : name.size ≤ maxLen) (hlen : ts.length ≤ cap) (hcap : cap ≤ maxLen)
    (ha : 0 < ts.length → a = some ⟨b, off, none⟩ ∧ S b)
    (hc : ∀ i, i < ts.length → w.cell? ⟨b, off + i * 3, none⟩ = some (.int .i64 (o i)) ∧ w.cell? ⟨b, off + i * 3 + 1, none⟩ = some (.string (s i)) ∧ w.cell? ⟨b, off + i * 3 + 2, none⟩ = some (v i))
    (hs : ∀ i (h : i < ts.length), FormIn w S (.agg #[.int .i64 (o i), .string (s i), v i]) ts[i]) :
    FormIn w S (.agg #[.int .i64 op, .string name, .slice a ts.length cap]) (.node op name ts)

/-- No cell lies in block 'row'. -/
abbrev FormAt (w : World) (row : Option Nat) (v : Value) (t : Tree) : Prop := FormIn w (fun b => row ≠ some b) v t

theorem FormIn.kept {w w' : World} {S : Nat → Prop} {v : Value} {t : Tree} (h : FormIn w S v t) (hg : ∀ i, S i → i < w.heap.size → w'.heap[i]? = w.heap[i]?) : FormIn w' S v t := by
  induction h with
  | node op name a cap ts b off o s v hop hname hlen hcap ha hc hs ih =>
    refine .node op name a cap ts b off o s v hop hname hlen hcap ha (fun i hi => ?_) ih
    have hS : S b := (ha (by omega)).2
    obtain ⟨c0, c1, c2⟩ := hc i hi
    have hb : w'.heap[b]? = w.heap[b]? := hg b hS (World.block_lt_of_cell? w ⟨b, off + i * 3, none⟩ c0)
    exact ⟨(World.cell?_of_block (a := ⟨b, off + i * 3, none⟩) hb).trans c0, (World.cell?_of_block (a := ⟨b, off + i * 3 + 1, none⟩) hb).trans c1, (World.cell?_of_block (a := ⟨b, off + i * 3 + 2, none⟩) hb).trans c2⟩
theorem FormIn.mono {w : World} {S S' : Nat → Prop} {v : Value} {t : Tree} (h : FormIn w S v t) (hS : ∀ i, i < w.heap.size → S i → S' i) : FormIn w S' v t := by
  induction h with
  | node op name a cap ts b off o s v hop hname hlen hcap ha hc hs ih =>
    exact .node op name a cap ts b off o s v hop hname hlen hcap (fun h => ⟨(ha h).1, hS b (World.block_lt_of_cell? w ⟨b, off + 0 * 3, none⟩ (hc 0 h).1) (ha h).2⟩) hc ih

theorem FormIn.go {w w' : World} {S : Nat → Prop} {v : Value} {t : Tree} (h : FormIn w S v t) (hb : Below w.heap.size w w') : FormIn w' S v t := h.kept fun i _ hi => hb.block i hi

theorem FormAt.kept {w w' : World} {row : Option Nat} {v : Value} {t : Tree} (h : FormAt w row v t) (hg : w.grownBy w' row) : FormAt w' row v t :=
  FormIn.kept h fun i hi hl => hg.block i hl (fun e => hi e.symm)

theorem FormAt.go {w w' : World} {row : Option Nat} {v : Value} {t : Tree} (h : FormAt w row v t) (hb : Below w.heap.size w w') : FormAt w' row v t := FormIn.go h hb

theorem FormIn.free {w : World} {S : Nat → Prop} {v : Value} {t : Tree} (h : FormIn w S v t) : FormAt w none v t := h.mono fun _ _ _ => by simp

/-- No formula lies in a block that is yet to come. -/
theorem FormAt.avoid {w : World} {row : Option Nat} {v : Value} {t : Tree} (h : FormAt w row v t) {n : Nat} (hn : w.heap.size ≤ n) : FormAt w (some n) v t :=
  FormIn.mono h fun i hi _ e => by injection e with e; omega

/-- The form of a formula's value, and its arguments. -/
theorem FormIn.form {w : World} {S : Nat → Prop} {v : Value} {t : Tree} (h : FormIn w S v t) : ∃ (a : Option Addr) (cap b off : Nat), v = .agg #[.int .i64 t.op, .string t.name, .slice a t.args.length cap] ∧ I64 t.op ∧ t.name.size ≤ maxLen ∧ t.args.length ≤ cap ∧ cap ≤ maxLen ∧
    (0 < t.args.length → a = some ⟨b, off, none⟩ ∧ S b) ∧
    ∀ i (h : i < t.args.length), ∃ (a' : Option Addr) (c' : Nat), w.cell? ⟨b, off + i * 3, none⟩ = some (.int .i64 t.args[i].op) ∧ w.cell? ⟨b, off + i * 3 + 1, none⟩ = some (.string t.args[i].name) ∧ w.cell? ⟨b, off + i * 3 + 2, none⟩ = some (.slice a' t.args[i].args.length c') ∧ FormIn w S (.agg #[.int .i64 t.args[i].op, .string t.args[i].name, .slice a' t.args[i].args.length c']) t.args[i] := by
  cases h with
  | node op name a cap ts b off o s v hop hname hlen hcap ha hc hs =>
    refine ⟨a, cap, b, off, rfl, hop, hname, hlen, hcap, ha, fun i hi => ?_⟩
    have hi' : i < ts.length := hi
    have h1 := hs i hi'
    obtain ⟨c0, c1, c2⟩ := hc i hi'
    generalize o i = oi at h1 c0
    generalize s i = si at h1 c1
    generalize v i = vi at h1 c2
    show ∃ (a' : Option Addr) (c' : Nat), w.cell? ⟨b, off + i * 3, none⟩ = some (.int .i64 ts[i].op) ∧ w.cell? ⟨b, off + i * 3 + 1, none⟩ = some (.string ts[i].name) ∧ w.cell? ⟨b, off + i * 3 + 2, none⟩ = some (.slice a' ts[i].args.length c') ∧ FormIn w S (.agg #[.int .i64 ts[i].op, .string ts[i].name, .slice a' ts[i].args.length c']) ts[i]
    generalize ts[i] = t at h1
    cases h1 with
    | node op' name' a' cap' ts' b' off' o' s' v' hop' hname' hlen' hcap' ha' hc' hs' =>
      exact ⟨a', cap', c0, c1, c2, .node _ _ a' cap' ts' b' off' o' s' v' hop' hname' hlen' hcap' ha' hc' hs'⟩

/-- A row of formulas. -/
def FormsIn (w : World) (S : Nat → Prop) (a : Option Addr) (ts : List Tree) : Prop := ∃ b off : Nat, (0 < ts.length → a = some ⟨b, off, none⟩ ∧ S b) ∧
  ∀ i (h : i < ts.length), ∃ (a' : Option Addr) (c' : Nat), w.cell? ⟨b, off + i * 3, none⟩ = some (.int .i64 ts[i].op) ∧ w.cell? ⟨b, off + i * 3 + 1, none⟩ = some (.string ts[i].name) ∧ w.cell? ⟨b, off + i * 3 + 2, none⟩ = some (.slice a' ts[i].args.length c') ∧ FormIn w S (.agg #[.int .i64 ts[i].op, .string ts[i].name, .slice a' ts[i].args.length c']) ts[i]
abbrev FormsAt (w : World) (row : Option Nat) (a : Option Addr) (ts : List Tree) : Prop := FormsIn w (fun b => row ≠ some b) a ts

theorem FormIn.shape {w : World} {S : Nat → Prop} {o : Int} {s : ByteArray} {a : Option Addr} {n cap : Nat} {t : Tree} (h : FormIn w S (.agg #[.int .i64 o, .string s, .slice a n cap]) t) : o = t.op ∧ s = t.name ∧ n = t.args.length := by
  obtain ⟨a', cap', b, off, e, -⟩ := h.form
  simp at e
  exact ⟨e.1, e.2.1, e.2.2.2.1⟩

theorem FormIn.forms {w : World} {S : Nat → Prop} {o : Int} {s : ByteArray} {a : Option Addr} {n cap : Nat} {t : Tree} (h : FormIn w S (.agg #[.int .i64 o, .string s, .slice a n cap]) t) : FormsIn w S a t.args := by
  obtain ⟨a', cap', b, off, e, -, -, -, -, ha, hc⟩ := h.form
  have e1 : a = a' := by
    simp at e
    exact e.2.2.1
  subst e1
  exact ⟨b, off, ha, hc⟩

theorem FormsIn.kept {w w' : World} {S : Nat → Prop} {a : Option Addr} {ts : List Tree} (h : FormsIn w S a ts) (hg : ∀ i, S i → i < w.heap.size → w'.heap[i]? = w.heap[i]?) : FormsIn w' S a ts := by
  obtain ⟨b, off, ha, hc⟩ := h
  refine ⟨b, off, ha, fun i hi => ?_⟩
  obtain ⟨a', c', h0, h1, h2, h3⟩ := hc i hi
  have hb : w'.heap[b]? = w.heap[b]? := hg b (ha (by omega)).2 (World.block_lt_of_cell? w ⟨b, off + i * 3, none⟩ h0)
  exact ⟨a', c', (World.cell?_of_block (a := ⟨b, off + i * 3, none⟩) hb).trans h0, (World.cell?_of_block (a := ⟨b, off + i * 3 + 1, none⟩) hb).trans h1, (World.cell?_of_block (a := ⟨b, off + i * 3 + 2, none⟩) hb).trans h2, h3.kept hg⟩
theorem FormsIn.go {w w' : World} {S : Nat → Prop} {a : Option Addr} {ts : List Tree} (h : FormsIn w S a ts) (hb : Below w.heap.size w w') : FormsIn w' S a ts := h.kept fun i _ hi => hb.block i hi
theorem FormsIn.mono {w : World} {S S' : Nat → Prop} {a : Option Addr} {ts : List Tree} (h : FormsIn w S a ts) (hS : ∀ i, i < w.heap.size → S i → S' i) : FormsIn w S' a ts := by
  obtain ⟨b, off, ha, hc⟩ := h
  refine ⟨b, off, fun h => ⟨(ha h).1, ?_⟩, fun i hi => ?_⟩
  · obtain ⟨a', c', h0, -⟩ := hc 0 h
    exact hS b (World.block_lt_of_cell? w ⟨b, off + 0 * 3, none⟩ h0) (ha h).2
  · obtain ⟨a', c', h0, h1, h2, h3⟩ := hc i hi
    exact ⟨a', c', h0, h1, h2, h3.mono hS⟩

/-- The element number i of a row. -/
theorem FormsIn.at {w : World} {S : Nat → Prop} {a : Option Addr} {ts : List Tree} (h : FormsIn w S a ts) (i : Nat) (hi : i < ts.length) : ∃ (b off : Nat) (a' : Option Addr) (c' : Nat), a = some ⟨b, off, none⟩ ∧ w.cell? ⟨b, off + i * 3, none⟩ = some (.int .i64 ts[i].op) ∧ w.cell? ⟨b, off + i * 3 + 1, none⟩ = some (.string ts[i].name) ∧ w.cell? ⟨b, off + i * 3 + 2, none⟩ = some (.slice a' ts[i].args.length c') ∧ FormIn w S (.agg #[.int .i64 ts[i].op, .string ts[i].name, .slice a' ts[i].args.length c']) ts[i] := by
  obtain ⟨b, off, ha, hc⟩ := h
  obtain ⟨a', c', h0, h1, h2, h3⟩ := hc i hi
  exact ⟨b, off, a', c', (ha (by omega)).1, h0, h1, h2, h3⟩
end Go.Proofs.YtilkpjcbmllgmaaGreatDoor

namespace Go.Proofs.YtilkpjcbmllgmaaGreatDoor
set_option linter.unusedVariables false
set_option linter.unusedSimpArgs false
open Go.RowKit

/-- Are the two formulas the same tree? -/
noncomputable def sameP (t u : Tree) : Bool := @decide (t = u) (Classical.propDecidable _)
theorem sameP_true {t u : Tree} (h : t = u) : sameP t u = true := @decide_eq_true _ (Classical.propDecidable _) h
theorem sameP_false {t u : Tree} (h : t ≠ u) : sameP t u = false := @decide_eq_false _ (Classical.propDecidable _) h
theorem sameP_eq {t u : Tree} (h : sameP t u = true) : t = u := @of_decide_eq_true _ (Classical.propDecidable _) h
theorem sameP_ne {t u : Tree} (h : sameP t u = false) : t ≠ u := @of_decide_eq_false _ (Classical.propDecidable _) h

theorem ret_bl {a b : Bool} (h : a = b) : Ending.returned (.bool a) = .returned (.bool b) := by rw [h]

set_option maxRecDepth 100000 in
set_option maxHeartbeats 2000000 in
theorem qsameP_any : ∀ (t u : Tree) (v x : Value) (w : World), FormAt w none v t → FormAt w none x u →
    Calls Tryz.prog 18 #[v, x] w fun e w' => e = .returned (.bool (sameP t u)) ∧ Below w.heap.size w w' := by
  refine Tree.ind fun op name ts ih u v x w hv hu => ?_
  obtain ⟨op2, name2, us⟩ := u
  obtain ⟨a, cap, b, off, rfl, hop, hname, hlen, hcap, -, -⟩ := hv.form
  obtain ⟨a2, cap2, b2, off2, rfl, -, -, hlen2, hcap2, -, -⟩ := hu.form
  have HV := hidIt hv.forms
  have HU := hidIt hu.forms
  simp only [Tree.op_node, Tree.name_node, Tree.args_node] at *
  have IH := hidIt ih
  unfold maxLen at hcap hcap2
  clear ih hv hu
  have HB0 : Hid (Below w.heap.size w ((w.alloc (.cells #[.int .i64 op, .string name, .slice a ts.length cap] 24)).alloc (.cells #[.int .i64 op2, .string name2, .slice a2 us.length cap2] 24))) := ((Below.refl _ _).alloc (Nat.le_refl _) _).alloc (by simp) _
  have HX : Hid (((w.alloc (.cells #[.int .i64 op, .string name, .slice a ts.length cap] 24)).alloc (.cells #[.int .i64 op2, .string name2, .slice a2 us.length cap2] 24)).heap[w.heap.size]? = some (.cells #[.int .i64 op, .string name, .slice a ts.length cap] 24 (0, 0))) := blk_kept (heap_alloc_new w _) ((Below.refl _ _).alloc (Nat.le_refl _) _)
  have HY : Hid (((w.alloc (.cells #[.int .i64 op, .string name, .slice a ts.length cap] 24)).alloc (.cells #[.int .i64 op2, .string name2, .slice a2 us.length cap2] 24)).heap[w.heap.size + 1]? = some (.cells #[.int .i64 op2, .string name2, .slice a2 us.length cap2] 24 (0, 0))) := heap_alloc_at (by simp)
  by_cases ho : op = op2
  case neg =>
    have HS : Hid (sameP (.node op name ts) (.node op2 name2 us) = false) := sameP_false (fun e => ho (by injection e))
    go_enter Tryz.func18, Tryz.ntmps18
    go_wp2_with fail
    go_ret
    exact ⟨ret_bl HS.out.symm, HB0.out⟩
  case pos =>
  subst ho
  by_cases hn : name = name2
  case neg =>
    have e0 : ¬ name.toList = name2.toList := by
      intro e
      rw [Lib.toList_data, Lib.toList_data] at e
      exact hn (ByteArray.ext (Array.toList_inj.1 e))
    have HS : Hid (sameP (.node op name ts) (.node op name2 us) = false) := sameP_false (fun e => hn (by injection e))
    clear hn
    go_enter Tryz.func18, Tryz.ntmps18
    go_wp2_with fail
    go_ret
    exact ⟨ret_bl HS.out.symm, HB0.out⟩
  case pos =>
  subst hn
  have hnm : (name.toList == name.toList) = true := beq_self_eq_true _
  by_cases hl : ts.length = us.length
  case neg =>
    have e0 : ((ts.length : Int) != (us.length : Int)) = true := by rw [bne_iff_ne]; omega
    have HS : Hid (sameP (.node op name ts) (.node op name us) = false) := sameP_false (fun e => hl (by injection e with _ _ e; rw [e]))
    go_enter Tryz.func18, Tryz.ntmps18
    go_wp2_with fail
    go_ret
    exact ⟨ret_bl HS.out.symm, HB0.out⟩
  case pos =>
  have HL := hidIt hl.symm
  rw [← hl] at HB0 HX HY hlen2 ⊢
  clear hl
  go_enter Tryz.func18, Tryz.ntmps18
  go_wp2_with fail
  generalize ((w.alloc (.cells #[.int .i64 op, .string name, .slice a ts.length cap] 24)).alloc (.cells #[.int .i64 op, .string name, .slice a2 ts.length cap2] 24)) = W at *
  go_loopw [5] (fun i wr => ∃ k : Nat, k ≤ ts.length ∧ i = .int .i64 k ∧ Hid (∀ j (h : j < ts.length) (h' : j < us.length), j < k → ts[j] = us[j]) ∧ Hid (Below W.heap.size W wr)) (fun i _ => ts.length - (intOf i).toNat)
  case atStart => exact ⟨0, Nat.zero_le _, rfl, fun j _ _ h => by omega, Below.refl _ _⟩
  case round =>
    obtain ⟨k, hk, rfl, hall, hbel⟩ := hrel
    have HBw := hidIt (HB0.out.trans (hbel.out.mono HB0.out.size))
    have kX := blk_kept HX.out hbel.out
    have kY := blk_kept HY.out hbel.out
    obtain ⟨x0, x1, x2⟩ := cell_of3 kX
    obtain ⟨y0, y1, y2⟩ := cell_of3 kY
    have hlx := lt_of_block kY
    clear kX kY
    by_cases hlt : k < ts.length
    · obtain ⟨b', off', a', c', rfl, c0, c1, c2, hf⟩ := (HV.out.go HBw.out).at k hlt
      obtain ⟨b2', off2', a2', c2', rfl, d0, d1, d2, hg⟩ := (HU.out.go HBw.out).at k (by rw [HL.out]; exact hlt)
      have HF := hidIt hf
      have HG := hidIt hg
      have hm : ts[k] ∈ ts := List.getElem_mem hlt
      have HST : Hid (ts[k] = us[k]'(by rw [HL.out]; exact hlt) → ∀ j (h : j < ts.length) (h' : j < us.length), j < k + 1 → ts[j] = us[j]) := fun e j h h' hj => by
        by_cases ej : j = k
        · subst ej; exact e
        · exact hall.out j h h' (by omega)
      have HNE : Hid (ts[k] ≠ us[k]'(by rw [HL.out]; exact hlt) → sameP (.node op name ts) (.node op name us) = false) := fun e => sameP_false (fun e' => e (by injection e' with _ _ e'; subst e'; rfl))
      clear hf hg hall
      generalize ts[k] = t at *
      generalize (us[k]'(by rw [HL.out]; exact hlt)) = u at *
      obtain ⟨r, hr⟩ : ∃ r, sameP t u = r := ⟨_, rfl⟩
      have HC := hidIt (fun (w : World) (v x : Value) h1 h2 => IH.out t hm u v x w h1 h2)
      rw [hr] at HC
      have HRR := hidIt hr
      clear hr
      have K0 := fun y => Ext.cell c0 y
      have K1 := fun y => Ext.cell c1 y
      have K2 := fun y => Ext.cell c2 y
      have L0 := fun y => Ext.cell d0 y
      have L1 := fun y => Ext.cell d1 y
      have L2 := fun y => Ext.cell d2 y
      have M0 := fun y => Ext.cell x2 y
      have M1 := fun y => Ext.cell y2 y
      have hlt0 : (k : Int) < (ts.length : Int) := by omega
      have hk0 : (0 : Int) ≤ (k : Int) := by omega
      cases r
      · go_wp2_with fail
        haveI := Ext.nonempty wr
        refine wp_region_in (Ext wr) (by kernel_rfl) (by kernel_rfl) (Ext.start wr) ?_
        repeat (go_big_quiet_step ((go_at_call 18; refine Ext.call (HC.out _ _ _ (FormAt.go HF.out (In.h _)) (FormAt.go HG.out (In.h _))))))
        refine wpQuiet_nil ?_
        rintro w5 ⟨⟨_, h5⟩, rfl⟩
        have HB5 : Hid (Below w.heap.size w w5) := HBw.out.trans (Below.mono h5 HBw.out.size)
        clear h5 K0 K1 K2 L0 L1 L2 M0 M1
        go_wp2_with fail
        go_ret
        exact ⟨ret_bl (HNE.out (sameP_ne HRR.out)).symm, HB5.out⟩
      · go_wp2_with fail
        haveI := Ext.nonempty wr
        refine wp_region_in (Ext wr) (by kernel_rfl) (by kernel_rfl) (Ext.start wr) ?_
        repeat (go_big_quiet_step ((go_at_call 18; refine Ext.call (HC.out _ _ _ (FormAt.go HF.out (In.h _)) (FormAt.go HG.out (In.h _))))))
        refine wpQuiet_nil ?_
        rintro w5 ⟨⟨_, h5⟩, rfl⟩
        have HB5 : Hid (Below W.heap.size W w5) := hbel.out.trans (Below.mono h5 hbel.out.size)
        clear h5 K0 K1 K2 L0 L1 L2 M0 M1
        go_wp2_with fail
        go_roundw
        case rel => exact ⟨k + 1, by omega, by go_num, HST.out (sameP_eq HRR.out), HB5.out⟩
        case measure => simp [intOf]; omega
    · obtain rfl : k = ts.length := by omega
      have HS : Hid (sameP (.node op name ts) (.node op name us) = true) := sameP_true (by
        have : ts = us := List.ext_getElem HL.out.symm fun j h h' => hall.out j h h' h
        rw [this])
      go_wp2_with fail
      go_ret
      exact ⟨ret_bl HS.out.symm, HBw.out⟩
end Go.Proofs.YtilkpjcbmllgmaaGreatDoor

namespace Go.Proofs.YtilkpjcbmllgmaaGreatDoor
set_option linter.unusedVariables false
set_option linter.unusedSimpArgs false
open Go.RowKit

set_option maxRecDepth 100000 in
set_option maxHeartbeats 400000 in
theorem size_any : ∀ (t : Tree) (v : Value) (w : World), FormAt w none v t → t.nodes ≤ 1000000000 →
    Calls Tryz.prog 65 #[v] w fun e w' => e = .returned (.int .i64 t.nodes) ∧ Below w.heap.size w w' := by
  refine Tree.ind fun op name ts ih v w hv hn => ?_
  obtain ⟨a, cap, b, off, rfl, hop, hname, hlen, hcap, ha, hc⟩ := hv.form
  simp only [Tree.op_node, Tree.name_node, Tree.args_node] at *
  have HN : Hid ((Tree.node op name ts).nodes = 1 + nodesL ts) := by show _ = _; simp [Tree.nodes]
  have hn' : 1 + nodesL ts ≤ 1000000000 := by rw [← HN.out]; exact hn
  have hlt : ts.length ≤ nodesL ts := nodes_len_le ts
  have HA := hidIt ha
  have HC := hidIt hc
  have IH := hidIt ih
  unfold maxLen at hcap
  clear hn ha hc ih hv
  go_enter Tryz.func65, Tryz.ntmps65
  go_wp2_with fail
  go_loopw [3, 9] (fun t i wr => ∃ k : Nat, k ≤ ts.length ∧ i = .int .i64 k ∧ t = .int .i64 (1 + nodesL (ts.take k) : Nat) ∧ Hid (Below w.heap.size w wr)) (fun _ i _ => ts.length - (intOf i).toNat)
  case atStart => exact ⟨0, Nat.zero_le _, rfl, by simp [nodesL], (Below.refl _ _).alloc (Nat.le_refl _) _⟩
  case round =>
    obtain ⟨k, hk, rfl, rfl, hbel⟩ := hrel
    by_cases hlt : k < ts.length
    · obtain ⟨a', cap', c0, c1, c2, hf⟩ := HC.out k hlt
      obtain ⟨rfl, -⟩ := HA.out (by omega)
      have hbw : b < w.heap.size := World.block_lt_of_cell? w ⟨b, off + k * 3, none⟩ c0
      rw [← hbel.out.cell (p := ⟨b, off + k * 3, none⟩) hbw] at c0
      rw [← hbel.out.cell (p := ⟨b, off + k * 3 + 1, none⟩) hbw] at c1
      rw [← hbel.out.cell (p := ⟨b, off + k * 3 + 2, none⟩) hbw] at c2
      have HF := hidIt (hf.go hbel.out)
      have hs := nodesL_take ts k hlt
      have hs2 := nodesL_take_le ts (k + 1)
      have HS := hidIt hs
      have hb1 : nodesL (ts.take k) ≤ 1000000000 := by omega
      have hb2 : nodesL (ts.take k) + (ts[k]).nodes ≤ 1000000000 := by omega
      have hm : ts[k] ∈ ts := List.getElem_mem hlt
      clear hf hs hs2
      generalize ts[k] = t at *
      go_wp2_with fail
      refine (IH.out _ hm _ _ (HF.out.go ((Below.refl _ _).alloc (Nat.le_refl _) _)) (by omega)).mono ?_
      rintro e w' ⟨rfl, hb⟩
      have HB := hidIt (hbel.out.trans ((below_box hb).mono hbel.out.size))
      clear hb
      go_wp2_with fail
      go_roundw
      case rel => exact ⟨k + 1, by omega, by go_num, by rw [HS.out]; go_num, HB.out⟩
      case measure => simp [intOf]; omega
    · go_wp2
      go_ret
      exact ⟨ret_int (by rw [HN.out, List.take_of_length_le (by omega)]), hbel.out⟩

set_option maxRecDepth 100000 in
set_option maxHeartbeats 400000 in
theorem depth_any : ∀ (t : Tree) (v : Value) (w : World), FormAt w none v t → t.nodes ≤ 1000000000 →
    Calls Tryz.prog 66 #[v] w fun e w' => e = .returned (.int .i64 t.depth) ∧ Below w.heap.size w w' := by
  refine Tree.ind fun op name ts ih v w hv hn => ?_
  obtain ⟨a, cap, b, off, rfl, hop, hname, hlen, hcap, ha, hc⟩ := hv.form
  simp only [Tree.op_node, Tree.name_node, Tree.args_node] at *
  have HN : Hid ((Tree.node op name ts).nodes = 1 + nodesL ts) := by show _ = _; simp [Tree.nodes]
  have HD : Hid ((Tree.node op name ts).depth = depthL ts) := by show _ = _; simp [Tree.depth]
  have hn' : 1 + nodesL ts ≤ 1000000000 := by rw [← HN.out]; exact hn
  have hlt : ts.length ≤ nodesL ts := nodes_len_le ts
  have HA := hidIt ha
  have HC := hidIt hc
  have IH := hidIt ih
  unfold maxLen at hcap
  clear hn ha hc ih hv
  go_enter Tryz.func66, Tryz.ntmps66
  go_wp2_with fail
  go_loopw [3, 9] (fun t i wr => ∃ k : Nat, k ≤ ts.length ∧ i = .int .i64 k ∧ t = .int .i64 (depthL (ts.take k) : Nat) ∧ Hid (Below w.heap.size w wr)) (fun _ i _ => ts.length - (intOf i).toNat)
  case atStart => exact ⟨0, Nat.zero_le _, rfl, by simp [depthL], (Below.refl _ _).alloc (Nat.le_refl _) _⟩
  case round =>
    obtain ⟨k, hk, rfl, rfl, hbel⟩ := hrel
    by_cases hlt : k < ts.length
    · obtain ⟨a', cap', c0, c1, c2, hf⟩ := HC.out k hlt
      obtain ⟨rfl, -⟩ := HA.out (by omega)
      have hbw : b < w.heap.size := World.block_lt_of_cell? w ⟨b, off + k * 3, none⟩ c0
      rw [← hbel.out.cell (p := ⟨b, off + k * 3, none⟩) hbw] at c0
      rw [← hbel.out.cell (p := ⟨b, off + k * 3 + 1, none⟩) hbw] at c1
      rw [← hbel.out.cell (p := ⟨b, off + k * 3 + 2, none⟩) hbw] at c2
      have HF := hidIt (hf.go hbel.out)
      have hs := nodesL_take ts k hlt
      have hs2 := nodesL_take_le ts (k + 1)
      have HS := hidIt (depthL_take ts k hlt)
      have hd1 : depthL (ts.take k) ≤ 1000000000 := by
        have h1 := depthL_take_le ts k
        have h2 := depth_lt_nodes (Tree.node op name ts)
        rw [HN.out, HD.out] at h2
        omega
      have hd2 : (ts[k]).depth < (ts[k]).nodes := depth_lt_nodes _
      have hb1 : nodesL (ts.take k) ≤ 1000000000 := by omega
      have hb2 : nodesL (ts.take k) + (ts[k]).nodes ≤ 1000000000 := by omega
      have hm : ts[k] ∈ ts := List.getElem_mem hlt
      clear hf hs hs2
      generalize ts[k] = t at *
      go_wp2_with fail
      refine (IH.out _ hm _ _ (HF.out.go ((Below.refl _ _).alloc (Nat.le_refl _) _)) (by omega)).mono ?_
      rintro e w' ⟨rfl, hb⟩
      have HB := hidIt (hbel.out.trans ((below_box hb).mono hbel.out.size))
      clear hb
      go_wp2_with fail
      go_roundw
      case rel => exact ⟨k + 1, by omega, by go_num, by rw [HS.out]; go_num, HB.out⟩
      case measure => simp [intOf]; omega
    · go_wp2
      go_ret
      exact ⟨ret_int (by rw [HD.out, List.take_of_length_le (by omega)]), hbel.out⟩
end Go.Proofs.YtilkpjcbmllgmaaGreatDoor

namespace Go.Proofs.YtilkpjcbmllgmaaGreatDoor
set_option linter.unusedVariables false
set_option linter.unusedSimpArgs false
open Go.RowKit

/-- Does a node have a kind, and the number of arguments of its kind? -/
def kindB (t : Tree) : Bool :=
  if t.op = 1 ∨ t.op = 2 ∨ t.op = 3 then t.args.length == 0
  else if t.op = 4 then t.args.length == 1
  else if t.op = 5 ∨ t.op = 6 then decide (2 ≤ t.args.length ∧ t.args.length ≤ 6)
  else if t.op = 7 ∨ t.op = 8 then t.args.length == 2
  else false

/-- Does a node have the name that it should have? -/
def nameB (t : Tree) : Bool := if t.op = 3 then vn t.name else t.name.size == 0

set_option maxHeartbeats 400000 in
theorem kindFits_any (t : Tree) (v : Value) (w : World) (h : FormAt w none v t) :
    Calls Tryz.prog 93 #[v] w fun e w' => e = .returned (.bool (kindB t)) ∧ Below w.heap.size w w' := by
  obtain ⟨a, cap, b, off, rfl, hop, hname, hlen, hcap, -, -⟩ := h.form
  have hK : Hid (kindB t = if t.op = 1 ∨ t.op = 2 ∨ t.op = 3 then t.args.length == 0
    else if t.op = 4 then t.args.length == 1
    else if t.op = 5 ∨ t.op = 6 then decide (2 ≤ t.args.length ∧ t.args.length ≤ 6)
    else if t.op = 7 ∨ t.op = 8 then t.args.length == 2
    else false) := rfl
  have hb : Hid (Below w.heap.size w (w.alloc (.cells #[.int .i64 t.op, .string t.name, .slice a t.args.length cap] 24))) := (Below.refl _ _).alloc (Nat.le_refl _) _
  generalize kindB t = kb at *
  generalize t.args.length = n at *
  generalize t.op = op at *
  generalize t.name = nm at *
  unfold maxLen at hcap
  clear h
  go_enter Tryz.func93, Tryz.ntmps93
  go_wp2
  all_goals (go_ret; refine ⟨ret_bool ?_, hb.out⟩; rw [hK.out]; grind)

theorem isEmpty_size (s : ByteArray) : s.toList.isEmpty = (s.size == 0) := by
  rw [Lib.toList_data]
  obtain ⟨⟨l⟩⟩ := s
  cases l <;> rfl

set_option maxHeartbeats 400000 in
theorem nameFits_any (t : Tree) (v : Value) (w : World) (h : FormAt w none v t) :
    Calls Tryz.prog 94 #[v] w fun e w' => e = .returned (.bool (nameB t)) ∧ Below w.heap.size w w' := by
  obtain ⟨a, cap, b, off, rfl, hop, hname, hlen, hcap, -, -⟩ := h.form
  have hb : Hid (Below w.heap.size w (w.alloc (.cells #[.int .i64 t.op, .string t.name, .slice a t.args.length cap] 24))) := (Below.refl _ _).alloc (Nat.le_refl _) _
  by_cases ho : t.op = 3
  · have hK : Hid (nameB t = vn t.name) := by show _ = _; simp [nameB, ho]
    have he : (t.op == 3) = true := by simp [ho]
    generalize nameB t = kb at *
    generalize t.args.length = n at *
    generalize t.op = op at *
    generalize t.name = nm at *
    clear h ho
    go_enter Tryz.func94, Tryz.ntmps94
    go_wp2_with (go_at_call 69; refine (validName_any _ _ hname).mono ?_; rintro e w' ⟨rfl, rfl⟩)
    go_ret
    exact ⟨ret_bool hK.out.symm, hb.out⟩
  · have hK : Hid (nameB t = (t.name.size == 0)) := by show _ = _; simp [nameB, ho]
    have he : (t.op == 3) = false := by simp [ho]
    generalize nameB t = kb at *
    generalize t.args.length = n at *
    generalize t.op = op at *
    generalize t.name = nm at *
    clear h ho
    go_enter Tryz.func94, Tryz.ntmps94
    go_wp2_with fail
    go_ret
    exact ⟨ret_bool (by rw [hK.out]; exact isEmpty_size nm), hb.out⟩

/-- A function of the program that has a body. -/
def Enters (k : Nat) : Prop := ∀ (args : Array Value) (w : World), (callFunc k args).run Tryz.prog w = .ok (.enter k args) w

theorem enters_of {k : Nat} {fn : Func} {c : Code} (hf : Tryz.prog.funcs[k]? = some fn) (hname : (fn.name == "runtime.NumGoroutine") = false) (hb : fn.body = some c) : Enters k := fun args w => by
  have h1 : fn.name ≠ "runtime.NumGoroutine" := by simpa using hname
  simp [callFunc, go_sem, hf, h1, hb]

/-- The function answers p of every formula. -/
def Tests (k : Nat) (p : Tree → Bool) : Prop := ∀ (t : Tree) (v : Value) (w : World), FormAt w none v t → Calls Tryz.prog k #[v] w fun e w' => e = .returned (.bool (p t)) ∧ Below w.heap.size w w'

set_option maxRecDepth 100000 in
set_option maxHeartbeats 400000 in
theorem every_any (f : Nat) (p : Tree → Bool) (hf : Enters f) (hp : Tests f p) : ∀ (t : Tree) (v : Value) (w : World), FormAt w none v t →
    Calls Tryz.prog 87 #[v, .func (.func f) #[] #[]] w fun e w' => e = .returned (.bool (t.all p)) ∧ Below w.heap.size w w' := by
  refine Tree.ind fun op name ts ih v w hv => ?_
  obtain ⟨a, cap, b, off, rfl, hop, hname, hlen, hcap, ha, hc⟩ := hv.form
  simp only [Tree.op_node, Tree.name_node, Tree.args_node] at *
  have HA := hidIt ha
  have HC := hidIt hc
  have IH := hidIt ih
  have HV := hidIt hv
  have HPP := hidIt hp
  unfold maxLen at hcap
  have hcf : ∀ (args : Array Value) (w : World), (callFunc f args).run Tryz.prog w = .ok (.enter f args) w := hf
  clear ha hc ih hv hp
  cases hpt : p (.node op name ts)
  · have HR : Hid ((Tree.node op name ts).all p = false) := by show _ = _; simp [Tree.all, hpt]
    have HT := hidIt hpt
    clear hpt
    go_enter Tryz.func87, Tryz.ntmps87
    go_wp2_with fail
    refine (HPP.out _ _ _ (HV.out.go ((Below.refl _ _).alloc (Nat.le_refl _) _))).mono ?_
    rintro e w' ⟨rfl, hb⟩
    rw [HT.out]
    have HB := hidIt (below_box hb)
    clear hb
    go_wp2_with fail
    go_ret
    exact ⟨ret_bool HR.out.symm, HB.out⟩
  · have HR : Hid ((Tree.node op name ts).all p = allL p ts) := by show _ = _; simp [Tree.all, hpt]
    have HT := hidIt hpt
    clear hpt
    go_enter Tryz.func87, Tryz.ntmps87
    go_wp2_with fail
    refine (HPP.out _ _ _ (HV.out.go ((Below.refl _ _).alloc (Nat.le_refl _) _))).mono ?_
    rintro e w' ⟨rfl, hb⟩
    rw [HT.out]
    have HB := hidIt (below_box hb)
    obtain ⟨p0, p1, p2⟩ := cell_of3 (laid_box hb)
    have hsz : w.heap.size < w'.heap.size := lt_of_block (laid_box hb)
    clear hb
    go_wp2_with fail
    go_loopw [14] (fun i wr => ∃ k : Nat, k ≤ ts.length ∧ i = .int .i64 k ∧ Hid (allL p (ts.take k) = true) ∧ Hid (Below w.heap.size w wr)) (fun i _ => ts.length - (intOf i).toNat)
    case atStart => exact ⟨0, Nat.zero_le _, rfl, rfl, HB.out⟩
    case round =>
      clear HB
      obtain ⟨k, hk, rfl, hall, hbel⟩ := hrel
      by_cases hlt : k < ts.length
      · obtain ⟨a', cap', c0, c1, c2, hf⟩ := HC.out k hlt
        obtain ⟨rfl, -⟩ := HA.out (by omega)
        have hbw : b < w.heap.size := World.block_lt_of_cell? w ⟨b, off + k * 3, none⟩ c0
        rw [← hbel.out.cell (p := ⟨b, off + k * 3, none⟩) hbw] at c0
        rw [← hbel.out.cell (p := ⟨b, off + k * 3 + 1, none⟩) hbw] at c1
        rw [← hbel.out.cell (p := ⟨b, off + k * 3 + 2, none⟩) hbw] at c2
        have HF := hidIt (hf.go hbel.out)
        have HS := hidIt (allL_take p ts k hlt)
        have hm : ts[k] ∈ ts := List.getElem_mem hlt
        clear hf
        generalize ts[k] = t at *
        go_wp2_with fail
        refine (IH.out t hm _ _ (HF.out.go ((Below.refl _ _).alloc (Nat.le_refl _) _))).mono ?_
        rintro e w' ⟨rfl, hb⟩
        have HB := hidIt (hbel.out.trans ((below_box hb).mono hbel.out.size))
        clear hb
        cases hpt : t.all p
        · have HE : Hid (allL p ts = false) := allL_take_false p ts (k + 1) (by rw [HS.out, hpt, Bool.and_false])
          clear hpt
          go_wp2_with fail
          go_ret
          exact ⟨ret_bool (by rw [HR.out, HE.out]), HB.out⟩
        · have HE : Hid (allL p (ts.take (k + 1)) = true) := by show _ = _; rw [HS.out, hall.out, hpt]; rfl
          clear hpt
          go_wp2_with fail
          go_roundw
          case rel => exact ⟨k + 1, by omega, by go_num, HE.out, HB.out⟩
          case measure => simp [intOf]; omega
      · go_wp2
        go_ret
        exact ⟨ret_bool (by rw [HR.out, ← hall.out, List.take_of_length_le (by omega)]), hbel.out⟩
end Go.Proofs.YtilkpjcbmllgmaaGreatDoor

namespace Go.Proofs.YtilkpjcbmllgmaaGreatDoor
set_option linter.unusedVariables false
set_option linter.unusedSimpArgs false
open Go.RowKit

/-- May a tree stand at this depth behind so many nodes? -/
def fitsAt (c d : Nat) (t : Tree) : Bool := decide (c + t.nodes ≤ 600 ∧ d + t.depth ≤ 20)

theorem enters_kindFits : Enters 93 := enters_of Tryz.func93 (by kernel_rfl) rfl
theorem enters_nameFits : Enters 94 := enters_of Tryz.func94 (by kernel_rfl) rfl

/-- What Validate answers. -/
def valE (t : Tree) : Int := if fitsAt 0 0 t then (if t.all kindB then (if t.all nameB then 0 else 3) else 4) else 2

/-- What the closure's variables hold: the count, and the closure itself. -/
structure WAt (w : World) (n v : Nat) (c : Nat) : Prop where
  hn : w.heap[n]? = some (.cells #[.int .i64 c] 3 (0, 0))
  hv : w.heap[v]? = some (.cells #[.func (.func 117) #[] #[.pointer (some ⟨n, 0, none⟩), .pointer (some ⟨v, 0, none⟩)]] 120 (0, 0))
  hne : n ≠ v

section
variable {w w' : World} {n v c : Nat}
theorem WAt.kept (h : WAt w n v c) (hb : Below w.heap.size w w') : WAt w' n v c :=
  ⟨blk_kept h.hn hb, blk_kept h.hv hb, h.hne⟩
theorem WAt.alloc (h : WAt w n v c) (o : Obj) : WAt (w.alloc o) n v c := h.kept ((Below.refl _ _).alloc (Nat.le_refl _) o)
theorem WAt.set (h : WAt w n v c) (c' : Nat) : WAt (w.setCell ⟨n, 0, none⟩ (.int .i64 c')) n v c' :=
  ⟨one_setCell h.hn, by rw [Below.heap_setCell _ _ _ _ (fun e => h.hne (by simpa using e.symm))]; exact h.hv, h.hne⟩
theorem WAt.drewN (h : WAt w n v c) (k : Nat) : WAt (w.drewN k) n v c := ⟨h.hn, h.hv, h.hne⟩
end

theorem fitsAt_many {c d op name ts} (h : 600 ≤ c) : fitsAt c d (.node op name ts) = false := by
  exact decide_eq_false (by simp only [Tree.nodes]; omega)
theorem fitsAt_deep {c d op name ts} (h : 20 < d) : fitsAt c d (.node op name ts) = false := by
  exact decide_eq_false (by simp only [Tree.nodes]; omega)
/-- The arguments so far fit. -/
def fitL (c d : Nat) (l : List Tree) : Prop := c + 1 + nodesL l ≤ 600 ∧ d + depthL l ≤ 20
theorem fitL_step {c d k : Nat} {ts : List Tree} (hk : k < ts.length) (h : fitL c d (ts.take k)) (hf : fitsAt (c + 1 + nodesL (ts.take k)) (d + 1) ts[k] = true) : fitL c d (ts.take (k + 1)) := by
  unfold fitL at *
  rw [nodesL_take ts k hk, depthL_take ts k hk]
  have hf := of_decide_eq_true hf
  omega
theorem fitL_no {c d k : Nat} {op : Int} {name : ByteArray} {ts : List Tree} (hk : k < ts.length) (hf : fitsAt (c + 1 + nodesL (ts.take k)) (d + 1) ts[k] = false) : fitsAt c d (.node op name ts) = false := by
  have hf := of_decide_eq_false hf
  refine decide_eq_false ?_
  simp only [Tree.nodes, Tree.depth]
  have h1 := nodesL_take ts k hk
  have h2 := nodesL_take_le ts (k + 1)
  have h3 := depthL_take ts k hk
  have h4 := depthL_take_le ts (k + 1)
  omega
theorem fitL_all {c d : Nat} {op : Int} {name : ByteArray} {ts : List Tree} (h : fitL c d ts) : fitsAt c d (.node op name ts) = true := by
  unfold fitL at h
  refine decide_eq_true ?_
  simp only [Tree.nodes, Tree.depth]
  omega

set_option maxRecDepth 100000 in
set_option maxHeartbeats 1000000 in
theorem within1_any : ∀ (t : Tree) (v : Value) (n vb c d : Nat) (w : World), FormAt w (some n) v t → WAt w n vb c → c ≤ 600 → d ≤ 21 →
    Calls Tryz.prog 117 #[v, .int .i64 d, .pointer (some ⟨n, 0, none⟩), .pointer (some ⟨vb, 0, none⟩)] w fun e w' => e = .returned (.bool (fitsAt c d t)) ∧ w.grownBy w' (some n) ∧ ∃ c', WAt w' n vb c' ∧ (fitsAt c d t = true → c' = c + t.nodes) := by
  refine Tree.ind fun op name ts ih v n vb c d w hv hw hc hd => ?_
  have HW := hidIt hw
  obtain ⟨a, cap, b, off, rfl, hop, hname, hlen, hcap, ha, hcl⟩ := hv.form
  simp only [Tree.op_node, Tree.name_node, Tree.args_node] at *
  have HA := hidIt ha
  have HC := hidIt hcl
  have IH := hidIt ih
  unfold maxLen at hcap
  obtain ⟨hn, hvb, hne⟩ := hw
  have n0 : w.cell? ⟨n, 0, none⟩ = some (.int .i64 c) := cell_of_one hn
  have f0 := free_of_one hn
  have v0 := cell_of_one hvb
  have hnlt := lt_of_block hn
  have hvlt := lt_of_block hvb
  have hnb : w.heap.size ≠ n := by omega
  clear ha hcl ih hv hn hvb
  by_cases hc1 : 600 ≤ c
  · have HF := hidIt (fitsAt_many (d := d) (op := op) (name := name) (ts := ts) hc1)
    have h1 : (600 : Int) < (c : Int) + 1 := by omega
    go_enter Tryz.func117, Tryz.ntmps117
    go_wp2_with fail
    go_ret
    exact ⟨ret_bool HF.out.symm, only_alloc (only_setCell (only_refl _ _) (.inl rfl) _) _, c + 1, (HW.out.set (c + 1)).alloc _, fun h => by rw [HF.out] at h; cases h⟩
  by_cases hd1 : 20 < d
  · have HF := hidIt (fitsAt_deep (c := c) (op := op) (name := name) (ts := ts) hd1)
    have h1 : decide ((600 : Int) < (c : Int) + 1) = false := by simp; omega
    have h2 : (20 : Int) < (d : Int) := by omega
    go_enter Tryz.func117, Tryz.ntmps117
    go_wp2_with fail
    go_ret
    exact ⟨ret_bool HF.out.symm, only_alloc (only_setCell (only_refl _ _) (.inl rfl) _) _, c + 1, (HW.out.set (c + 1)).alloc _, fun h => by rw [HF.out] at h; cases h⟩
  have h1 : decide ((600 : Int) < (c : Int) + 1) = false := by simp; omega
  have h2 : decide ((20 : Int) < (d : Int)) = false := by simp; omega
  go_enter Tryz.func117, Tryz.ntmps117
  go_wp2_with fail
  go_loopw [20] (fun i wr => ∃ k : Nat, k ≤ ts.length ∧ i = .int .i64 k ∧ Hid (fitL c d (ts.take k)) ∧ Hid (WAt wr n vb (c + 1 + nodesL (ts.take k))) ∧ Hid (w.grownBy wr (some n))) (fun i _ => ts.length - (intOf i).toNat)
  case atStart => exact ⟨0, Nat.zero_le _, rfl, (show fitL c d [] by unfold fitL; simp [nodesL, depthL]; omega), (HW.out.set (c + 1)).alloc _, only_alloc (only_setCell (only_refl _ _) (.inl rfl) _) _⟩
  case round =>
    obtain ⟨k, hk, rfl, hfit, hwat, hgr⟩ := hrel
    clear n0 v0
    by_cases hlt : k < ts.length
    · obtain ⟨a', cap', c0, c1, c2, hf⟩ := HC.out k hlt
      obtain ⟨rfl, hnb'⟩ := HA.out (by omega)
      have hbn : b ≠ n := fun e => hnb' (by rw [e])
      have c0 := hgr.out.cell (a := ⟨b, off + k * 3, none⟩) c0 (fun e => hnb' e.symm)
      have c1 := hgr.out.cell (a := ⟨b, off + k * 3 + 1, none⟩) c1 (fun e => hnb' e.symm)
      have c2 := hgr.out.cell (a := ⟨b, off + k * 3 + 2, none⟩) c2 (fun e => hnb' e.symm)
      have HF := hidIt (FormAt.kept hf hgr.out)
      have hm : ts[k] ∈ ts := List.getElem_mem hlt
      have v0 := cell_of_one hwat.out.hv
      have hvlt := lt_of_block hwat.out.hv
      have hb1 := hfit.out.1
      have hb2 := hfit.out.2
      have hnext : Hid (fitsAt (c + 1 + nodesL (ts.take k)) (d + 1) ts[k] = true → fitL c d (ts.take (k + 1))) := fitL_step hlt hfit.out
      have hno : Hid (fitsAt (c + 1 + nodesL (ts.take k)) (d + 1) ts[k] = false → fitsAt c d (.node op name ts) = false) := fitL_no hlt
      have HS := hidIt (nodesL_take ts k hlt)
      clear hf
      generalize ts[k] = t at *
      go_wp2_with fail
      refine (IH.out t hm _ n vb (c + 1 + nodesL (ts.take k)) (d + 1) _ (HF.out.go ((Below.refl _ _).alloc (Nat.le_refl _) _)) (hwat.out.alloc _) (by omega) (by omega)).mono ?_
      rintro e w' ⟨rfl, hg, c', hw', hcc⟩
      have HG := hidIt (only_trans (only_alloc hgr.out _) hg)
      have HW' := hidIt hw'
      have HCC := hidIt hcc
      clear hg hw' hcc
      cases hpt : fitsAt (c + 1 + nodesL (ts.take k)) (d + 1) t
      · have HE := hidIt (hno.out hpt)
        clear hpt
        go_wp2_with fail
        go_ret
        exact ⟨ret_bool HE.out.symm, HG.out, c', HW'.out, fun h => by rw [HE.out] at h; cases h⟩
      · have HE := hidIt (hnext.out hpt)
        have HC' := hidIt (HCC.out hpt)
        clear hpt
        go_wp2_with fail
        go_roundw
        case rel => exact ⟨k + 1, by omega, by go_num, HE, (by show WAt _ _ _ _; rw [HS.out, ← Nat.add_assoc, ← HC'.out]; exact HW'.out), HG⟩
        case measure => simp [intOf]; omega
    · go_wp2
      go_ret
      have hfit' := hfit.out
      have hwat' := hwat.out
      rw [List.take_of_length_le (by omega)] at hfit' hwat'
      exact ⟨ret_bool (fitL_all hfit').symm, hgr.out, _, hwat', fun _ => by simp only [Tree.nodes]; omega⟩

theorem within1_zero (t : Tree) (v : Value) (n vb : Nat) (w : World) (hv : FormAt w (some n) v t) (hw : WAt w n vb 0) :
    Calls Tryz.prog 117 #[v, .int .i64 0, .pointer (some ⟨n, 0, none⟩), .pointer (some ⟨vb, 0, none⟩)] w fun e w' => e = .returned (.bool (fitsAt 0 0 t)) ∧ w.grownBy w' (some n) :=
  (within1_any t v n vb 0 0 w hv hw (by omega) (by omega)).mono fun _ _ h => ⟨h.1, h.2.1⟩

set_option maxRecDepth 100000 in
set_option maxHeartbeats 400000 in
theorem within_any (t : Tree) (v : Value) (w : World) (h : FormAt w none v t) :
    Calls Tryz.prog 101 #[v] w fun e w' => e = .returned (.bool (fitsAt 0 0 t)) ∧ Below w.heap.size w w' := by
  have H := hidIt h
  obtain ⟨a, cap, b, off, rfl, hop, hname, hlen, hcap, -, -⟩ := h.form
  have hmf : ∀ (fn : Fn) (first cap : Array Value) (w : World), (Instr.makeFunc fn first cap).run Tryz.prog w = .ok (.func fn first cap) w := fun _ _ _ _ => rfl
  clear h
  go_enter Tryz.func101, Tryz.ntmps101
  go_wp2_with fail
  refine (within1_zero t _ (w.heap.size + 1) (w.heap.size + 1 + 1) _ ((FormAt.kept (FormAt.avoid H.out (n := w.heap.size + 1) (by omega)) (only_alloc (only_alloc (only_alloc (only_refl _ _) _) _) _))) ⟨?_, ?_, by omega⟩).mono ?_
  · exact (Below.heap_alloc _ _ _ (by simp)).trans (heap_alloc_at (by simp))
  · exact heap_alloc_at (by simp)
  rintro e w' ⟨rfl, hg⟩
  have HG : Hid (Below w.heap.size w w') := by
    have h1 : w.grownBy w' (some (w.heap.size + 1)) := only_trans (only_alloc (only_alloc (only_alloc (only_refl _ _) _) _) _) hg
    exact ⟨h1.os, h1.tape, h1.output, h1.size, fun i hi => h1.block i hi (fun e => by injection e with e; omega)⟩
  clear hg
  go_wp2_with fail
  go_ret
  exact ⟨rfl, HG.out⟩

set_option maxHeartbeats 400000 in
theorem validate_any (t : Tree) (v : Value) (w : World) (h : FormAt w none v t) :
    Calls Tryz.prog 79 #[v] w fun e w' => e = .returned (.int .i64 (valE t)) ∧ Below w.heap.size w w' := by
  obtain ⟨a, cap, b, off, rfl, hop, hname, hlen, hcap, -, -⟩ := h.form
  have H := hidIt (h.go ((Below.refl _ _).alloc (Nat.le_refl _) (.cells #[.int .i64 t.op, .string t.name, .slice a t.args.length cap] 24)))
  clear h
  cases h1 : fitsAt 0 0 t
  · have HV : Hid (valE t = 2) := by show _ = _; simp [valE, h1]
    have H1 := hidIt h1
    clear h1
    go_enter Tryz.func79, Tryz.ntmps79
    go_wp2_with fail
    refine (within_any t _ _ H.out).mono ?_
    rintro e w' ⟨rfl, hb⟩
    rw [H1.out]
    have HB := hidIt (below_box hb)
    clear hb
    go_wp2_with fail
    go_ret
    exact ⟨ret_int HV.out.symm, HB.out⟩
  cases h2 : t.all kindB
  · have HV : Hid (valE t = 4) := by show _ = _; simp [valE, h1, h2]
    have H1 := hidIt h1
    have H2 := hidIt h2
    clear h1 h2
    go_enter Tryz.func79, Tryz.ntmps79
    go_wp2_with fail
    refine (within_any t _ _ H.out).mono ?_
    rintro e w' ⟨rfl, hb⟩
    rw [H1.out]
    have HB := hidIt (below_box hb)
    obtain ⟨p0, p1, p2⟩ := cell_of3 (laid_box hb)
    have hsz : w.heap.size < w'.heap.size := lt_of_block (laid_box hb)
    have HF := hidIt (H.out.go hb)
    clear hb
    go_wp2_with fail
    refine (every_any 93 kindB enters_kindFits kindFits_any t _ _ HF.out).mono ?_
    rintro e w2 ⟨rfl, hb2⟩
    rw [H2.out]
    have HB2 := hidIt (HB.out.trans (hb2.mono HB.out.size))
    clear hb2
    go_wp2_with fail
    go_ret
    exact ⟨ret_int HV.out.symm, HB2.out⟩
  · have HV : Hid (valE t = if t.all nameB then 0 else 3) := by show _ = _; simp [valE, h1, h2]
    have H1 := hidIt h1
    have H2 := hidIt h2
    clear h1 h2
    go_enter Tryz.func79, Tryz.ntmps79
    go_wp2_with fail
    refine (within_any t _ _ H.out).mono ?_
    rintro e w' ⟨rfl, hb⟩
    rw [H1.out]
    have HB := hidIt (below_box hb)
    have K1 := laid_box hb
    obtain ⟨p0, p1, p2⟩ := cell_of3 K1
    have hsz : w.heap.size < w'.heap.size := lt_of_block K1
    have HF := hidIt (H.out.go hb)
    have HK1 := hidIt K1
    clear hb K1
    go_wp2_with fail
    refine (every_any 93 kindB enters_kindFits kindFits_any t _ _ HF.out).mono ?_
    rintro e w2 ⟨rfl, hb2⟩
    rw [H2.out]
    have HB2 := hidIt (HB.out.trans (hb2.mono HB.out.size))
    have HF2 := hidIt (HF.out.go hb2)
    have K2 := blk_kept HK1.out hb2
    clear p0 p1 p2 hsz
    obtain ⟨p0, p1, p2⟩ := cell_of3 K2
    have hsz : w.heap.size < w2.heap.size := lt_of_block K2
    clear hb2 K2
    go_wp2_with fail
    refine (every_any 94 nameB enters_nameFits nameFits_any t _ _ HF2.out).mono ?_
    rintro e w3 ⟨rfl, hb3⟩
    have HB3 := hidIt (HB2.out.trans (hb3.mono HB2.out.size))
    clear hb3
    cases h3 : t.all nameB
    · have H3 := hidIt h3
      clear h3
      go_wp2_with fail
      go_ret
      exact ⟨ret_int (by rw [HV.out, H3.out]; rfl), HB3.out⟩
    · have H3 := hidIt h3
      clear h3
      go_wp2_with fail
      go_ret
      exact ⟨ret_int (by rw [HV.out, H3.out]; rfl), HB3.out⟩
end Go.Proofs.YtilkpjcbmllgmaaGreatDoor

namespace Go.Proofs.YtilkpjcbmllgmaaGreatDoor
set_option linter.unusedVariables false
set_option linter.unusedSimpArgs false
open Go.RowKit Go.Maps Go.WideMaps

theorem strKeyed : Keyed Tryz.prog 9 := Keyed.of_law (string_law Tryz.underlying9)
theorem key_str (s : ByteArray) (h : s.size ≤ maxLen) : keyOf Tryz.prog 9 (.string s) = some (.string s.data.toList) := keyOf_string_mk Tryz.underlying9 h

/-- Is a string in a list? -/
def inB (l : List ByteArray) (s : ByteArray) : Bool := l.any fun x => x.data.toList == s.data.toList

/-- The map in which these strings are true. -/
def setD (l : List ByteArray) : DataW Unit := l.foldl (fun D s => D.put (.string s.data.toList) (.lit (.bool true))) (.map [])
theorem setD_snoc (l : List ByteArray) (s : ByteArray) : setD (l ++ [s]) = (setD l).put (.string s.data.toList) (.lit (.bool true)) := by simp [setD]
theorem setD_isMap (l : List ByteArray) : IsMap (setD l) := by
  have : ∀ (l : List ByteArray) (D : DataW Unit), IsMap D → IsMap (l.foldl (fun D s => D.put (.string s.data.toList) (.lit (.bool true))) D) := by
    intro l
    induction l with
    | nil => exact fun D h => h
    | cons x r ih => exact fun D h => ih _ (h.put _ _)
  exact this l _ isMap_empty

theorem bytes_inj {a b : ByteArray} (h : a.data.toList = b.data.toList) : a = b := by
  obtain ⟨⟨a⟩⟩ := a
  obtain ⟨⟨b⟩⟩ := b
  simp only at h
  rw [h]

theorem setD_at (y : ByteArray) (n : Nat) : ∀ l : List ByteArray, l.length = n → (setD l).atKey (.string y.data.toList) (.lit (.bool false)) = .lit (.bool (inB l y)) := by
  induction n with
  | zero =>
    intro l hl
    obtain rfl := List.eq_nil_of_length_eq_zero hl
    rfl
  | succ n ih =>
    intro l hl
    obtain ⟨r, x, rfl⟩ : ∃ r x, l = r ++ [x] := by
      rcases List.eq_nil_or_concat l with h | ⟨r, x, h⟩
      · subst h; simp at hl
      · exact ⟨r, x, by simpa using h⟩
    have hr : r.length = n := by simpa using hl
    rw [setD_snoc]
    by_cases e : y = x
    · subst e
      rw [atKey_put_same (setD_isMap r) (by trivial)]
      simp [inB]
    · rw [atKey_put_other (fun h => e (bytes_inj (by simpa using h))), ih r hr]
      have e' : (x.data.toList == y.data.toList) = false := by rw [beq_eq_false_iff_ne]; exact fun h => e (bytes_inj h.symm)
      simp only [inB, List.any_append, List.any_cons, List.any_nil, e', Bool.or_false]

/-- Block b is a map in which just these strings are true. -/
def SetAt (w : World) (b : Nat) (l : List ByteArray) : Prop := ∃ n, n ≤ l.length ∧ w.ownsMap Tryz.prog 9 (plainElem Tryz.prog 4) b n (setD l)

theorem SetAt.kept {w w' : World} {b : Nat} {l : List ByteArray} {row : Option Nat} (h : SetAt w b l) (hg : w.grownBy w' row) (hr : row ≠ some b) : SetAt w' b l := by
  obtain ⟨n, hn, ho⟩ := h
  exact ⟨n, hn, ho.kept hg (fun e => hr e.symm)⟩
theorem SetAt.go {w w' : World} {b : Nat} {l : List ByteArray} (h : SetAt w b l) (hb : Below w.heap.size w w') : SetAt w' b l := h.kept (only_of_below hb none) (by simp)

set_option maxRecDepth 10000 in
theorem SetAt.lookup {w : World} {b : Nat} {l : List ByteArray} (h : SetAt w b l) (s : ByteArray) (hs : s.size ≤ maxLen) :
    (Instr.lookup 66 (.map (some b)) (.string s) false).run Tryz.prog w = .ok (.bool (inB l s)) w := by
  obtain ⟨n, hn, ho⟩ := h
  have hz : (zeroValue 4).run Tryz.prog w = .ok (.bool false) w := by kernel_rfl
  obtain ⟨v, ps, hrun, hv⟩ := ho.lookup strKeyed Tryz.underlying66 hz (plainElem_bool Tryz.underlying4 false) (key_str s hs)
  unfold plainElem at hv
  rw [Tryz.underlying4] at hv
  cases v <;> simp at hv
  rename_i c
  have h2 := hv.1
  rw [setD_at s _ l rfl] at h2
  have h3 : inB l s = c := by simpa using h2.symm
  rw [h3]
  exact hrun

theorem SetAt.made (w : World) : SetAt (w.alloc (.map #[] 0)) w.heap.size [] := ⟨0, Nat.le_refl _, World.ownsMap_made w _ _ _⟩
theorem SetAt.put {w : World} {b : Nat} {l : List ByteArray} (h : SetAt w b l) (s : ByteArray) (hs : s.size ≤ maxLen) (hl : l.length ≤ 1000000000) :
    ∃ w', (Instr.mapUpdate 66 (.map (some b)) (.string s) (.bool true)).run Tryz.prog w = .ok () w' ∧ SetAt w' b (l ++ [s]) ∧ w.grownBy w' (some b) := by
  obtain ⟨n, hn, ho⟩ := h
  obtain ⟨w3, hrun, hown, hg⟩ := ho.update strKeyed Tryz.underlying66 (by unfold maxLen; omega) (key_str s hs) (plainElem_bool Tryz.underlying4 true)
  refine ⟨w3, hrun, ⟨n + 1, by simp; omega, ?_⟩, hg⟩
  rw [setD_snoc]
  exact hown

/-- A row of strings. -/
def StrsIn (w : World) (S : Nat → Prop) (a : Option Addr) (l : List ByteArray) : Prop := ∃ b off : Nat, (0 < l.length → a = some ⟨b, off, none⟩ ∧ S b) ∧
  ∀ i (h : i < l.length), w.cell? ⟨b, off + i, none⟩ = some (.string l[i]) ∧ l[i].size ≤ maxLen
theorem StrsIn.kept {w w' : World} {S : Nat → Prop} {a : Option Addr} {l : List ByteArray} (h : StrsIn w S a l) (hg : ∀ i, S i → i < w.heap.size → w'.heap[i]? = w.heap[i]?) : StrsIn w' S a l := by
  obtain ⟨b, off, ha, hc⟩ := h
  refine ⟨b, off, ha, fun i hi => ⟨?_, (hc i hi).2⟩⟩
  exact (World.cell?_of_block (a := ⟨b, off + i, none⟩) (hg b (ha (by omega)).2 (World.block_lt_of_cell? w ⟨b, off + i, none⟩ (hc i hi).1))).trans (hc i hi).1
theorem StrsIn.go {w w' : World} {S : Nat → Prop} {a : Option Addr} {l : List ByteArray} (h : StrsIn w S a l) (hb : Below w.heap.size w w') : StrsIn w' S a l := h.kept fun i _ hi => hb.block i hi
theorem StrsIn.mono {w : World} {S S' : Nat → Prop} {a : Option Addr} {l : List ByteArray} (h : StrsIn w S a l) (hS : ∀ i, i < w.heap.size → S i → S' i) : StrsIn w S' a l := by
  obtain ⟨b, off, ha, hc⟩ := h
  exact ⟨b, off, fun h => ⟨(ha h).1, hS b (World.block_lt_of_cell? w ⟨b, off + 0, none⟩ (hc 0 h).1) (ha h).2⟩, hc⟩
theorem StrsIn.at {w : World} {S : Nat → Prop} {a : Option Addr} {l : List ByteArray} (h : StrsIn w S a l) (i : Nat) (hi : i < l.length) : ∃ b off : Nat, a = some ⟨b, off, none⟩ ∧ w.cell? ⟨b, off + i, none⟩ = some (.string l[i]) ∧ l[i].size ≤ maxLen := by
  obtain ⟨b, off, ha, hc⟩ := h
  exact ⟨b, off, (ha (by omega)).1, hc i hi⟩
theorem StrsIn.nil {w : World} {S : Nat → Prop} (a : Option Addr) : StrsIn w S a [] := ⟨0, 0, fun h => by simp at h, fun i h => by simp at h⟩
end Go.Proofs.YtilkpjcbmllgmaaGreatDoor

namespace Go.Proofs.YtilkpjcbmllgmaaGreatDoor
set_option linter.unusedVariables false
set_option linter.unusedSimpArgs false
open Go.RowKit Go.Maps

mutual
/-- The value of a formula where p says which atoms are true. -/
def valueB (p : ByteArray → Bool) : Tree → Bool
  | .node op name ts =>
    if op = 1 then true else if op = 2 then false
    else if op = 4 then !((valuesB p ts).getD 0 false)
    else if op = 5 then (valuesB p ts).all id
    else if op = 6 then (valuesB p ts).any id
    else if op = 7 then (!((valuesB p ts).getD 0 false) || (valuesB p ts).getD 1 false)
    else if op = 8 then ((valuesB p ts).getD 0 false == (valuesB p ts).getD 1 false)
    else p name
def valuesB (p : ByteArray → Bool) : List Tree → List Bool
  | [] => []
  | t :: ts => valueB p t :: valuesB p ts
end
theorem valuesB_map (p : ByteArray → Bool) : ∀ ts, valuesB p ts = ts.map (valueB p)
  | [] => rfl
  | t :: ts => by rw [valuesB, valuesB_map p ts]; rfl

/-- Does a test that is called as a function value say yes of one of the formulas? -/
def FTest (w : World) (fv : Value) (q : Tree → Bool) (ts : List Tree) : Prop :=
  ∀ t ∈ ts, ∀ (v : Value) (w' : World), Below w.heap.size w w' → FormAt w' none v t → ∃ (f : Nat) (first cap : Array Value), fv = .func (.func f) first cap ∧ (∀ (args : Array Value) (w : World), (callFunc f args).run Tryz.prog w = .ok (.enter f args) w) ∧
    Calls Tryz.prog f (first ++ #[v] ++ cap) w' fun e w2 => e = .returned (.bool (q t)) ∧ Below w'.heap.size w' w2

set_option maxRecDepth 100000 in
set_option maxHeartbeats 1000000 in
theorem indexFF (f : Nat) (cap : Array Value) (hcf : ∀ (args : Array Value) (w : World), (callFunc f args).run Tryz.prog w = .ok (.enter f args) w) (q : Tree → Bool) (ts : List Tree) (a : Option Addr) (cp : Nat) (hn : ts.length ≤ 1000000) (w : World) (h : FormsAt w none a ts)
    (hq : ∀ t ∈ ts, ∀ (v : Value) (w' : World), Below w.heap.size w w' → FormAt w' none v t → Calls Tryz.prog f (#[v] ++ cap) w' fun e w2 => e = .returned (.bool (q t)) ∧ Below w'.heap.size w' w2) :
    Calls Tryz.prog 111 #[.slice a ts.length cp, .func (.func f) #[] cap] w fun e w' => ∃ i : Int, e = .returned (.int .i64 i) ∧ (0 ≤ i ↔ ts.any q = true) ∧ Below w.heap.size w w' := by
  have HF := hidIt h
  have HQ := hidIt hq
  clear h hq
  go_enter Tryz.func111, Tryz.ntmps111
  go_wp2_with fail
  go_loopw [8] (fun i wr => ∃ k : Nat, k ≤ ts.length ∧ i = .int .i64 k ∧ Hid ((ts.take k).any q = false) ∧ Hid (Below w.heap.size w wr)) (fun i _ => ts.length - (intOf i).toNat)
  case atStart => exact ⟨0, Nat.zero_le _, rfl, rfl, Below.refl _ _⟩
  case round =>
    obtain ⟨k, hk, rfl, hno, hbel⟩ := hrel
    by_cases hlt : k < ts.length
    · obtain ⟨b', off', a', c', rfl, c0, c1, c2, hf⟩ := (HF.out.go hbel.out).at k hlt
      have HF1 := hidIt hf
      have hm : ts[k] ∈ ts := List.getElem_mem hlt
      have hst : (ts.take (k + 1)).any q = ((ts.take k).any q || q ts[k]) := by rw [take_snoc' ts k hlt, List.any_append]; simp
      have HST := hidIt hst
      clear hf hst
      generalize ts[k] = t at *
      cases hqt : q t
      · have HQT := hidIt hqt
        clear hqt
        go_wp2_with fail
        refine (HQ.out t hm _ wr hbel.out HF1.out).mono ?_
        rintro e w2 ⟨rfl, hb2⟩
        rw [HQT.out]
        have HB2 := hidIt (hbel.out.trans (hb2.mono hbel.out.size))
        clear hb2
        go_wp2_with fail
        go_roundw
        case rel => exact ⟨k + 1, by omega, by go_num, by show _ = _; rw [HST.out, hno.out, HQT.out]; rfl, HB2⟩
        case measure => simp [intOf]; omega
      · have HQT := hidIt hqt
        clear hqt
        go_wp2_with fail
        refine (HQ.out t hm _ wr hbel.out HF1.out).mono ?_
        rintro e w2 ⟨rfl, hb2⟩
        rw [HQT.out]
        have HB2 := hidIt (hbel.out.trans (hb2.mono hbel.out.size))
        clear hb2
        go_wp2_with fail
        go_ret
        exact ⟨k, rfl, ⟨fun _ => List.any_eq_true.2 ⟨t, hm, HQT.out⟩, fun _ => by omega⟩, HB2.out⟩
    · go_wp2_with fail
      go_ret
      have := hno.out
      rw [List.take_of_length_le (by omega)] at this
      exact ⟨_, rfl, ⟨fun h => by omega, fun h => by rw [this] at h; cases h⟩, hbel.out⟩

set_option maxHeartbeats 400000 in
theorem containsFF (f : Nat) (cap : Array Value) (hcf : ∀ (args : Array Value) (w : World), (callFunc f args).run Tryz.prog w = .ok (.enter f args) w) (q : Tree → Bool) (ts : List Tree) (a : Option Addr) (cp : Nat) (hn : ts.length ≤ 1000000) (w : World) (h : FormsAt w none a ts)
    (hq : ∀ t ∈ ts, ∀ (v : Value) (w' : World), Below w.heap.size w w' → FormAt w' none v t → Calls Tryz.prog f (#[v] ++ cap) w' fun e w2 => e = .returned (.bool (q t)) ∧ Below w'.heap.size w' w2) :
    Calls Tryz.prog 96 #[.slice a ts.length cp, .func (.func f) #[] cap] w fun e w' => e = .returned (.bool (ts.any q)) ∧ Below w.heap.size w w' := by
  have HI := hidIt (indexFF f cap hcf q ts a cp hn w h hq)
  clear h hq hcf
  go_enter Tryz.func96, Tryz.ntmps96
  go_wp2_with fail
  refine HI.out.mono ?_
  rintro e w' ⟨i, rfl, hi, hb⟩
  have HB := hidIt hb
  have HIF := hidIt hi
  clear hb hi HI
  go_wp2
  go_ret
  refine ⟨ret_bool ?_, HB.out⟩
  rw [Bool.eq_iff_iff]
  simp only [decide_eq_true_eq]
  exact HIF.out
end Go.Proofs.YtilkpjcbmllgmaaGreatDoor

namespace Go.Proofs.YtilkpjcbmllgmaaGreatDoor
set_option linter.unusedVariables false
set_option linter.unusedSimpArgs false
open Go

section
variable (P : Program) (ops : Array Oper) (C : World → Prop) (G : World → World → Prop) (R : Tmp → Option (Value → World → Prop))

/-- What is known of the frame's temporaries in the set F, in the world w. -/
def Knows (F : Tmp → Prop) (a : Act) (w : World) : Prop := ∀ s, F s → ∀ r, R s = some r → r (a.eval (.tmp s)) w
/-- What the operation may lean on. -/
def Leans (F : Tmp → Prop) (o : Oper) (a : Act) (w : World) : Prop := ∀ s, F s → s ∈ o.looksAt ops → ∀ r, R s = some r → r (a.eval (.tmp s)) w
def KnownTo (F : Tmp → Prop) (a : Act) : Prop := ∃ w, C w ∧ Knows R F a w
def more (F : Tmp → Prop) (t : Tmp) : Tmp → Prop := fun s => s = t ∨ F s

def relUpon (r : Value → World → Prop) (w : World) : Result Next → Prop
  | .ok (.value u) w' => C w' ∧ G w w' ∧ r u w'
  | .ok .skip w' => C w' ∧ G w w' ∧ r undef w'
  | .ok (.enter f args) w' => Calls P f args w' fun e w'' => ∃ u, e = .returned u ∧ C w'' ∧ G w w'' ∧ r u w''
  | _ => False
def plainUpon (x : Value) (w : World) : Result Next → Prop
  | .ok (.value u) w' => w' = w ∧ u = x
  | .ok .skip w' => w' = w ∧ undef = x
  | _ => False

def opRel (r : Value → World → Prop) (F : Tmp → Prop) (o : Oper) (a : Act) : Prop := ∀ w, C w → Leans ops R F o a w → relUpon P C G r w ((execOp a.eval o).run P w)
def opPlain (x : Value) (F : Tmp → Prop) (o : Oper) (a : Act) : Prop := ∀ w, C w → Leans ops R F o a w → plainUpon x w ((execOp a.eval o).run P w)

/-- One operation that is carried out; what follows is asked of K. -/
def opDo (o : Oper) (K : (Tmp → Prop) → Act → Prop) (F : Tmp → Prop) (a : Act) : Prop :=
  match o.dst with
  | none => opRel P ops C G R (fun _ _ => True) F o a ∧ K F a
  | some t => match R t with
    | none => ∃ x, opPlain P ops C R x F o a ∧ K F (a.put (some t) x)
    | some r => t < a.tmps.size ∧ opRel P ops C G R r F o a ∧ ∀ v, KnownTo C R (more F t) (a.put (some t) v) → K (more F t) (a.put (some t) v)
def opAt (o : Oper) (K : (Tmp → Prop) → Act → Prop) (F : Tmp → Prop) (a : Act) : Prop :=
  (Region.wanted o (yielded ops a.tmps) = true → opDo P ops C G R o K F a) ∧ (Region.wanted o (yielded ops a.tmps) = false → K F (a.put o.dst undef))

def anyR (md : Region.Mode) (E : (Tmp → Prop) → Act → Prop) : Nat → Array Bool → (Tmp → Prop) → Act → Prop
  | 0, listed, F, a => Region.ready md ops listed = [] ∧ E F a
  | n + 1, listed, F, a => (Region.ready md ops listed = [] → E F a) ∧ ∀ i ∈ Region.ready md ops listed, ∀ o, ops[i]? = some o → opAt P ops C G R o (anyR md E n (listed.setIfInBounds i true)) F a

/-- The walk in the order of the text. -/
def walkR (E : (Tmp → Prop) → Act → Prop) : List Oper → (Tmp → Prop) → Act → Prop
  | [], F, a => E F a
  | o :: rest, F, a => opAt P ops C G R o (walkR E rest) F a
end

section
variable {P : Program} {ops : Array Oper} {C : World → Prop} {G : World → World → Prop} {R : Tmp → Option (Value → World → Prop)} {md : Region.Mode} {E : (Tmp → Prop) → Act → Prop}

def Stable (C : World → Prop) (G : World → World → Prop) (R : Tmp → Option (Value → World → Prop)) : Prop := ∀ s r, R s = some r → ∀ v w w', C w → C w' → G w w' → r v w → r v w'

theorem put_size (a : Act) (d : Option Tmp) (v : Value) : (a.put d v).tmps.size = a.tmps.size := by cases d <;> simp [Act.put]
theorem eval_put_self (a : Act) (t : Tmp) (v : Value) (h : t < a.tmps.size) : (a.put (some t) v).eval (.tmp t) = v := by simp [Act.eval, Act.put, h]
theorem eval_put_ne (a : Act) {t s : Tmp} (v : Value) (h : s ≠ t) : (a.put (some t) v).eval (.tmp s) = a.eval (.tmp s) :=
  Act.eval_put fun d hd => by injection hd with hd; subst hd; intro e; injection e with e; exact h e

theorem Knows.put {F : Tmp → Prop} {a : Act} {w : World} {d : Option Tmp} {v : Value} (hf : ∀ t, d = some t → ¬ F t) : Knows R F (a.put d v) w ↔ Knows R F a w := by
  refine ⟨fun h s hs r hr => ?_, fun h s hs r hr => ?_⟩
  · have := h s hs r hr
    rwa [Act.eval_put (fun t ht e => by injection e with e; subst e; exact hf _ ht hs)] at this
  · rw [Act.eval_put (fun t ht e => by injection e with e; subst e; exact hf _ ht hs)]
    exact h s hs r hr
theorem KnownTo.put {F : Tmp → Prop} {a : Act} {d : Option Tmp} {v : Value} (hf : ∀ t, d = some t → ¬ F t) : KnownTo C R F (a.put d v) ↔ KnownTo C R F a :=
  ⟨fun ⟨w, h, k⟩ => ⟨w, h, (Knows.put hf).1 k⟩, fun ⟨w, h, k⟩ => ⟨w, h, (Knows.put hf).2 k⟩⟩
theorem Knows.less {F : Tmp → Prop} {t : Tmp} {a : Act} {w : World} (h : Knows R (more F t) a w) : Knows R F a w := fun s hs => h s (.inr hs)
theorem Knows.leans {F : Tmp → Prop} {o : Oper} {a : Act} {w : World} (h : Knows R F a w) : Leans ops R F o a w := fun s hs _ => h s hs
theorem Knows.made (hR : Stable C G R) {F : Tmp → Prop} {a : Act} {w w' : World} {t : Tmp} {v : Value} {r : Value → World → Prop} (h : Knows R F a w) (hC : C w) (hC' : C w') (hG : G w w') (hf : ¬ F t) (ht : t < a.tmps.size) (hr : R t = some r) (hv : r v w') :
    Knows R (more F t) (a.put (some t) v) w' := by
  intro s hs r' hr'
  rcases hs with rfl | hs
  · rw [eval_put_self _ _ _ ht]
    rw [hr] at hr'
    injection hr' with hr'
    rw [← hr']
    exact hv
  · have hne : s ≠ t := fun e => hf (e ▸ hs)
    rw [eval_put_ne _ _ hne]
    exact hR s r' hr' _ w w' hC hC' hG (h s hs r' hr')
theorem Knows.grown (hR : Stable C G R) {F : Tmp → Prop} {a : Act} {w w' : World} (h : Knows R F a w) (hC : C w) (hC' : C w') (hG : G w w') : Knows R F a w' := fun s hs r hr => hR s r hr _ w w' hC hC' hG (h s hs r hr)

/-- Some outcome of an operation. -/
theorem rel_some {r : Value → World → Prop} {w : World} {x : Result Next} (h : relUpon P C G r w x) : ∃ u w', C w' ∧ G w w' ∧ r u w' := by
  unfold relUpon at h
  split at h
  · exact ⟨_, _, h⟩
  · exact ⟨_, _, h⟩
  · obtain ⟨e, w', fr, ⟨u, he, hu⟩, -⟩ := h []
    exact ⟨u, w', hu⟩
  · exact h.elim

theorem plain_same {x y : Value} {w : World} {r : Result Next} (h : plainUpon x w r) (h' : plainUpon y w r) : x = y := by
  unfold plainUpon at h h'
  split at h
  · exact h.2.symm.trans h'.2
  · exact h.2.symm.trans h'.2
  · exact h.elim

/-- From every world of the class in which what is known holds. -/
theorem wpAny_of_anyR (hR : Stable C G R) {Q : Exit → Act → World → Prop} (hE : ∀ F a w, C w → Knows R F a w → E F a → Q .normal a w) (hD : ∀ (k k' : Nat) (o o' : Oper) (t : Tmp), ops[k]? = some o → ops[k']? = some o' → o.dst = some t → o'.dst = some t → k = k') :
    ∀ (n : Nat) (listed : Array Bool) (F : Tmp → Prop) (a : Act) (w : World), (∀ (k : Nat) (o : Oper) (t : Tmp), ops[k]? = some o → listed.getD k true = false → o.dst = some t → ¬ F t) → C w → Knows R F a w → anyR P ops C G R md E n listed F a → wpAny P md ops Q n listed a w
  | 0, _, F, a, w, _, hC, hK, h => ⟨h.1, hE F a w hC hK h.2⟩
  | n + 1, listed, F, a, w, hf, hC, hK, h => by
    refine ⟨fun h0 => hE F a w hC hK (h.1 h0), fun i hi => ?_⟩
    obtain ⟨hun, o, ho, -⟩ := mem_ready.1 hi
    obtain ⟨h1, h2⟩ := h.2 i hi o ho
    have hfo := hf i o
    have hf' : ∀ (k : Nat) (o' : Oper) (t : Tmp), ops[k]? = some o' → (listed.setIfInBounds i true).getD k true = false → o'.dst = some t → ¬ F t := fun k o' t hk hl ht => by
      by_cases hki : i = k
      · subst hki; exact hf i o' t hk hun ht
      · rw [getD_set_ne true hki] at hl; exact hf k o' t hk hl ht
    have hsame : ∀ d v, o.dst = d → anyR P ops C G R md E n (listed.setIfInBounds i true) F (a.put d v) → wpAny P md ops Q n (listed.setIfInBounds i true) (a.put d v) w := fun d v hd hk =>
      wpAny_of_anyR hR hE hD n _ F _ w hf' hC ((Knows.put fun t ht => hfo t ho hun (hd.trans ht)).2 hK) hk
    unfold wpOp
    simp only [ho]
    cases hw : Region.wanted o (yielded ops a.tmps)
    · simp only [Bool.false_eq_true, if_false]
      exact hsame _ _ rfl (h2 hw)
    · simp only [if_true]
      refine .inl ?_
      have h3 := h1 hw
      unfold opDo at h3
      unfold Oper.wp
      cases hd : o.dst with
      | none =>
        simp only [hd] at h3
        obtain ⟨h4, h5⟩ := h3
        have h6 := h4 w hC hK.leans
        generalize (execOp a.eval o).run P w = x at h6 ⊢
        have fin : ∀ w', C w' → G w w' → ∀ v, wpAny P md ops Q n (listed.setIfInBounds i true) (a.put o.dst v) w' := fun w' hC' hG v => by
          rw [hd]
          exact wpAny_of_anyR hR hE hD n _ F _ w' hf' hC' (hK.grown hR hC hC' hG) h5
        unfold relUpon at h6
        split at h6
        · exact fin _ h6.1 h6.2.1 _
        · exact fin _ h6.1 h6.2.1 _
        · exact h6.mono fun e w'' ⟨u, he, hC', hG, _⟩ => by subst he; exact fin _ hC' hG _
        · exact h6.elim
      | some t =>
        simp only [hd] at h3
        cases hr : R t with
        | none =>
          simp only [hr] at h3
          obtain ⟨x, h4, h5⟩ := h3
          have h6 := h4 w hC hK.leans
          generalize (execOp a.eval o).run P w = y at h6 ⊢
          have fin := hsame (some t) x hd h5
          unfold plainUpon at h6
          split at h6
          · obtain ⟨rfl, rfl⟩ := h6
            show wpAny P md ops Q n _ (a.put o.dst _) _
            rw [hd]; exact fin
          · obtain ⟨rfl, rfl⟩ := h6
            show wpAny P md ops Q n _ (a.put o.dst _) _
            rw [hd]; exact fin
          · exact h6.elim
        | some r =>
          simp only [hr] at h3
          obtain ⟨hlt, h4, h5⟩ := h3
          have h6 := h4 w hC hK.leans
          generalize (execOp a.eval o).run P w = y at h6 ⊢
          have fin : ∀ w' v, C w' → G w w' → r v w' → wpAny P md ops Q n (listed.setIfInBounds i true) (a.put o.dst v) w' := fun w' v hC' hG hv => by
            have hk := hK.made hR hC hC' hG (hfo t ho hun hd) hlt hr hv
            rw [hd]
            refine wpAny_of_anyR hR hE hD n _ (more F t) _ w' (fun k o' t' hk' hl ht' => ?_) hC' hk (h5 v ⟨w', hC', hk⟩)
            rintro (rfl | hF)
            · obtain rfl : k = i := hD k i o' o _ hk' ho ht' hd
              have : k < listed.size := by
                rcases Nat.lt_or_ge k listed.size with h' | h'
                · exact h'
                · simp [Array.getElem?_eq_none h'] at hun
              simp [this] at hl
            · exact hf' k o' t' hk' hl ht' hF
          unfold relUpon at h6
          split at h6
          · exact fin _ _ h6.1 h6.2.1 h6.2.2
          · exact fin _ _ h6.1 h6.2.1 h6.2.2
          · exact h6.mono fun e w'' ⟨u, he, hC', hG, hv⟩ => by subst he; exact fin _ _ hC' hG hv
          · exact h6.elim

theorem Leans.put {F : Tmp → Prop} {o : Oper} {a : Act} {w : World} {d : Option Tmp} {v : Value} (h : ∀ t, d = some t → t ∉ o.looksAt ops) : Leans ops R F o (a.put d v) w ↔ Leans ops R F o a w := by
  refine ⟨fun h1 s hs hl r hr => ?_, fun h1 s hs hl r hr => ?_⟩
  · have := h1 s hs hl r hr
    rwa [Act.eval_put (fun t ht e => by injection e with e; subst e; exact h _ ht hl)] at this
  · rw [Act.eval_put (fun t ht e => by injection e with e; subst e; exact h _ ht hl)]
    exact h1 s hs hl r hr
theorem Leans.more_iff {F : Tmp → Prop} {o : Oper} {a : Act} {w : World} {t : Tmp} (h : t ∉ o.looksAt ops) : Leans ops R (more F t) o a w ↔ Leans ops R F o a w :=
  ⟨fun h1 s hs => h1 s (.inr hs), fun h1 s hs hl => by
    rcases hs with rfl | hs
    · exact absurd hl h
    · exact h1 s hs hl⟩

variable (hsel : ∀ (j : Nat) (o : Oper) cs b, ops[j]? = some o → o.op ≠ .select cs b)

theorem opRel_put {o : Oper} {r : Value → World → Prop} {F : Tmp → Prop} {a : Act} {d : Option Tmp} {v : Value} (hs : ∀ cs b, o.op ≠ .select cs b) (h : ∀ t, d = some t → t ∉ o.looksAt ops) : opRel P ops C G R r F o (a.put d v) ↔ opRel P ops C G R r F o a := by
  unfold opRel
  rw [execOp_put (ops := ops) o hs a d v h]
  exact forall_congr' fun w => forall_congr' fun _ => by rw [Leans.put h]
theorem opRel_more {o : Oper} {r : Value → World → Prop} {F : Tmp → Prop} {a : Act} {t : Tmp} (h : t ∉ o.looksAt ops) : opRel P ops C G R r (more F t) o a ↔ opRel P ops C G R r F o a := by
  unfold opRel
  exact forall_congr' fun w => forall_congr' fun _ => by rw [Leans.more_iff h]
theorem opPlain_put {o : Oper} {x : Value} {F : Tmp → Prop} {a : Act} {d : Option Tmp} {v : Value} (hs : ∀ cs b, o.op ≠ .select cs b) (h : ∀ t, d = some t → t ∉ o.looksAt ops) : opPlain P ops C R x F o (a.put d v) ↔ opPlain P ops C R x F o a := by
  unfold opPlain
  rw [execOp_put (ops := ops) o hs a d v h]
  exact forall_congr' fun w => forall_congr' fun _ => by rw [Leans.put h]
theorem opPlain_more {o : Oper} {x : Value} {F : Tmp → Prop} {a : Act} {t : Tmp} (h : t ∉ o.looksAt ops) : opPlain P ops C R x (more F t) o a ↔ opPlain P ops C R x F o a := by
  unfold opPlain
  exact forall_congr' fun w => forall_congr' fun _ => by rw [Leans.more_iff h]

theorem more_comm (F : Tmp → Prop) (s t : Tmp) : more (more F s) t = more (more F t) s := by
  funext x
  exact propext ⟨fun h => by rcases h with h | h | h <;> simp [more, h], fun h => by rcases h with h | h | h <;> simp [more, h]⟩

theorem not_more {F : Tmp → Prop} {s t : Tmp} (h : ¬ F s) (hne : s ≠ t) : ¬ more F t s := fun hm => by
  rcases hm with rfl | hm
  · exact hne rfl
  · exact h hm
/-- How an operation goes: by one value (some x), or by its relation (none). -/
def Ev (P : Program) (ops : Array Oper) (C : World → Prop) (G : World → World → Prop) (R : Tmp → Option (Value → World → Prop)) (o : Oper) (F : Tmp → Prop) (a : Act) : Option Value → Prop
  | some x => (Region.wanted o (yielded ops a.tmps) = false ∧ x = undef) ∨ (Region.wanted o (yielded ops a.tmps) = true ∧ ((o.dst = none ∧ opRel P ops C G R (fun _ _ => True) F o a ∧ x = undef) ∨ ∃ t, o.dst = some t ∧ R t = none ∧ opPlain P ops C R x F o a))
  | none => Region.wanted o (yielded ops a.tmps) = true ∧ ∃ t r, o.dst = some t ∧ R t = some r ∧ t < a.tmps.size ∧ opRel P ops C G R r F o a

theorem opAt_iff {o : Oper} {K : (Tmp → Prop) → Act → Prop} {F : Tmp → Prop} {a : Act} : opAt P ops C G R o K F a ↔
    (∃ x, Ev P ops C G R o F a (some x) ∧ K F (a.put o.dst x)) ∨ (Ev P ops C G R o F a none ∧ ∀ t, o.dst = some t → ∀ v, KnownTo C R (more F t) (a.put (some t) v) → K (more F t) (a.put (some t) v)) := by
  unfold opAt Ev
  cases hw : Region.wanted o (yielded ops a.tmps)
  · constructor
    · rintro ⟨-, h⟩
      exact .inl ⟨undef, .inl ⟨rfl, rfl⟩, h rfl⟩
    · rintro (⟨x, (⟨-, rfl⟩ | ⟨h, -⟩), hk⟩ | ⟨⟨h, -⟩, -⟩)
      · exact ⟨fun h => (by cases h), fun _ => hk⟩
      · cases h
      · cases h
  · unfold opDo
    cases hd : o.dst with
    | none =>
      constructor
      · rintro ⟨h, -⟩
        obtain ⟨h1, h2⟩ := h (by trivial)
        exact .inl ⟨undef, .inr ⟨by trivial, .inl ⟨rfl, h1, rfl⟩⟩, h2⟩
      · rintro (⟨x, (⟨h, -⟩ | ⟨-, (⟨-, h1, -⟩ | ⟨t, h, -⟩)⟩), hk⟩ | ⟨⟨-, t, r, h, -⟩, -⟩)
        · cases h
        · exact ⟨fun _ => ⟨h1, hk⟩, fun h => by cases h⟩
        · cases h
        · cases h
    | some t =>
      cases hr : R t with
      | none =>
        simp only [hr]
        constructor
        · rintro ⟨h, -⟩
          obtain ⟨x, h1, h2⟩ := h (by trivial)
          exact .inl ⟨x, .inr ⟨by trivial, .inr ⟨t, rfl, hr, h1⟩⟩, h2⟩
        · rintro (⟨x, (⟨h, -⟩ | ⟨-, (⟨h, -⟩ | ⟨t', h, hr', h1⟩)⟩), hk⟩ | ⟨⟨-, t', r, h, hr', -⟩, -⟩)
          · cases h
          · cases h
          · exact ⟨fun _ => ⟨x, h1, hk⟩, fun h => by cases h⟩
          · injection h with h
            subst h
            rw [hr] at hr'
            cases hr'
      | some r =>
        simp only [hr]
        constructor
        · rintro ⟨h, -⟩
          obtain ⟨h1, h2, h3⟩ := h (by trivial)
          refine .inr ⟨⟨by trivial, t, r, rfl, hr, h1, h2⟩, fun t' ht' => ?_⟩
          injection ht' with ht'
          subst ht'
          exact h3
        · rintro (⟨x, (⟨h, -⟩ | ⟨-, (⟨h, -⟩ | ⟨t', h, hr', h1⟩)⟩), hk⟩ | ⟨⟨-, t', r', h, hr', h1, h2⟩, h3⟩)
          · cases h
          · cases h
          · injection h with h
            subst h
            rw [hr] at hr'
            cases hr'
          · injection h with h
            subst h
            rw [hr] at hr'
            injection hr' with hr'
            subst hr'
            exact ⟨fun _ => ⟨h1, h2, h3 _ rfl⟩, fun h => by cases h⟩

theorem Ev.put {o : Oper} {F : Tmp → Prop} {a : Act} {d : Option Tmp} {v : Value} {y : Option Value} (hs : ∀ cs b, o.op ≠ .select cs b) (h : ∀ t, d = some t → t ∉ o.looksAt ops) : Ev P ops C G R o F (a.put d v) y ↔ Ev P ops C G R o F a y := by
  cases y with
  | none => simp only [Ev, wanted_put o a d v h, opRel_put hs h, put_size]
  | some x => simp only [Ev, wanted_put o a d v h, opRel_put hs h, opPlain_put hs h]
theorem Ev.more {o : Oper} {F : Tmp → Prop} {a : Act} {t : Tmp} {y : Option Value} (h : t ∉ o.looksAt ops) : Ev P ops C G R o (more F t) a y ↔ Ev P ops C G R o F a y := by
  cases y with
  | none => simp only [Ev, opRel_more h]
  | some x => simp only [Ev, opRel_more h, opPlain_more h]

theorem Ev.same {o : Oper} {F : Tmp → Prop} {a : Act} {x : Value} {y : Option Value} (hk : KnownTo C R F a) (h : Ev P ops C G R o F a (some x)) (h' : Ev P ops C G R o F a y) : y = some x := by
  obtain ⟨w, hC, hK⟩ := hk
  cases y with
  | none =>
    obtain ⟨h1, t, r, h2, h3, -⟩ := h'
    rcases h with ⟨h4, -⟩ | ⟨-, (⟨h4, -⟩ | ⟨t', h4, h5, -⟩)⟩
    · rw [h1] at h4; cases h4
    · rw [h2] at h4; cases h4
    · rw [h2] at h4
      injection h4 with h4
      subst h4
      rw [h3] at h5
      cases h5
  | some y =>
    rcases h with ⟨h1, rfl⟩ | ⟨h1, (⟨h4, -, rfl⟩ | ⟨t, h4, h5, h6⟩)⟩ <;> rcases h' with ⟨k1, rfl⟩ | ⟨k1, (⟨k4, -, rfl⟩ | ⟨t', k4, k5, k6⟩)⟩
    · rfl
    · rfl
    · rw [h1] at k1; cases k1
    · rfl
    · rfl
    · rw [h4] at k4; cases k4
    · rw [h1] at k1; cases k1
    · rw [h4] at k4; cases k4
    · rw [plain_same (h6 w hC hK.leans) (k6 w hC hK.leans)]

theorem Ev.some_value (hR : Stable C G R) {o : Oper} {F : Tmp → Prop} {a : Act} {t : Tmp} (hk : KnownTo C R F a) (hf : ¬ F t) (ht : o.dst = some t) (h : Ev P ops C G R o F a none) : ∃ v, KnownTo C R (Go.Proofs.YtilkpjcbmllgmaaGreatDoor.more F t) (a.put (some t) v) := by
  obtain ⟨w, hC, hK⟩ := hk
  obtain ⟨-, t', r, h2, h3, h4, h5⟩ := h
  rw [ht] at h2
  injection h2 with h2
  subst h2
  obtain ⟨u, w', hC', hG, hu⟩ := rel_some (h5 w hC hK.leans)
  exact ⟨u, w', hC', hK.made hR hC hC' hG hf h4 h3 hu⟩

theorem opAt_mono {o : Oper} {K K' : (Tmp → Prop) → Act → Prop} {F : Tmp → Prop} {a : Act} (hk : KnownTo C R F a) (hf : ∀ t, o.dst = some t → ¬ F t)
    (h : ∀ F1 a1, KnownTo C R F1 a1 → (F1 = F ∨ ∃ t, o.dst = some t ∧ F1 = more F t) → K F1 a1 → K' F1 a1) (hh : opAt P ops C G R o K F a) : opAt P ops C G R o K' F a := by
  rw [opAt_iff] at *
  rcases hh with ⟨x, h1, h2⟩ | ⟨h1, h2⟩
  · exact .inl ⟨x, h1, h _ _ ((KnownTo.put hf).2 hk) (.inl rfl) h2⟩
  · exact .inr ⟨h1, fun t ht v hv => h _ _ hv (.inr ⟨t, ht, rfl⟩) (h2 t ht v hv)⟩

theorem opAt_some (hR : Stable C G R) {o : Oper} {K : (Tmp → Prop) → Act → Prop} {F : Tmp → Prop} {a : Act} (hk : KnownTo C R F a) (hf : ∀ t, o.dst = some t → ¬ F t) (hh : opAt P ops C G R o K F a) : ∃ F' a', K F' a' := by
  rw [opAt_iff] at hh
  rcases hh with ⟨x, h1, h2⟩ | ⟨h1, h2⟩
  · exact ⟨_, _, h2⟩
  · obtain ⟨-, t, r, ht, -⟩ := id h1
    obtain ⟨v, hv⟩ := h1.some_value hR hk (hf t ht) ht
    exact ⟨_, _, h2 t ht v hv⟩

theorem opAt_swap (hR : Stable C G R) {oi oj : Oper} {K : (Tmp → Prop) → Act → Prop} {F : Tmp → Prop} {a : Act} (hap : oi.apart ops oj = true) (hsi : ∀ cs b, oi.op ≠ .select cs b) (hsj : ∀ cs b, oj.op ≠ .select cs b)
    (hk : KnownTo C R F a) (hfi : ∀ t, oi.dst = some t → ¬ F t) (hfj : ∀ t, oj.dst = some t → ¬ F t)
    (h : opAt P ops C G R oi (fun F1 a1 => opAt P ops C G R oj K F1 a1) F a) : opAt P ops C G R oj (fun F2 a2 => opAt P ops C G R oi K F2 a2) F a := by
  obtain ⟨a1, a2, a3⟩ := Oper.apart_spec hap
  have hne : ∀ s t, oi.dst = some s → oj.dst = some t → s ≠ t := fun s t hs ht e => a2 s hs (by rw [ht, e])
  have hmi : ∀ t, oj.dst = some t → ∀ s, oi.dst = some s → ¬ more F t s := fun t ht s hs => not_more (hfi s hs) (hne s t hs ht)
  have hmj : ∀ t, oi.dst = some t → ∀ s, oj.dst = some s → ¬ more F t s := fun t ht s hs => not_more (hfj s hs) (fun e => hne t s ht hs e.symm)
  simp only [opAt_iff] at *
  rcases h with ⟨x, h1, ⟨y, h2, h3⟩ | ⟨h2, h3⟩⟩ | ⟨h1, h3⟩
  · refine .inl ⟨y, (Ev.put hsj a1).1 h2, .inl ⟨x, (Ev.put hsi a3).2 h1, ?_⟩⟩
    rw [← Act.put_comm a x y a2]
    exact h3
  · refine .inr ⟨(Ev.put hsj a1).1 h2, fun t ht v hv => .inl ⟨x, ?_, ?_⟩⟩
    · exact (Ev.more (a3 t ht)).2 ((Ev.put hsi (fun s hs => by injection hs with hs; subst hs; exact a3 _ ht)).2 h1)
    · have e := Act.put_comm a (x := oi.dst) (y := some t) x v (fun d hd => by rw [← ht]; exact a2 d hd)
      rw [← e]
      refine h3 t ht v ?_
      rw [e]
      exact (KnownTo.put (hmi t ht)).2 hv
  · obtain ⟨-, t, r, ht, -⟩ := id h1
    have e : ∀ y v, (a.put (some t) v).put oj.dst y = (a.put oj.dst y).put (some t) v := fun y v => Act.put_comm a v y (fun d hd => by injection hd with hd; subst hd; exact a2 t ht)
    obtain ⟨v0, hv0⟩ := h1.some_value hR hk (hfi t ht) ht
    have down : ∀ v z, Ev P ops C G R oj (more F t) (a.put (some t) v) z → Ev P ops C G R oj F a z := fun v z hz => (Ev.put hsj (fun s hs => by injection hs with hs; subst hs; exact a1 _ ht)).1 ((Ev.more (a1 t ht)).1 hz)
    rcases h3 t ht v0 hv0 with ⟨y0, h4, h5⟩ | ⟨h4, h5⟩
    · refine .inl ⟨y0, down _ _ h4, .inr ⟨(Ev.put hsi a3).2 h1, fun t' ht' v hv => ?_⟩⟩
      obtain rfl : t = t' := by rw [ht] at ht'; injection ht'
      rw [← e] at hv ⊢
      have hv' := (KnownTo.put (hmj t ht)).1 hv
      rcases h3 t ht v hv' with ⟨y, h6, h7⟩ | ⟨h6, h7⟩
      · have h8 := Ev.same hk (down _ _ h4) (down _ _ h6)
        injection h8 with h8
        rw [h8] at h7
        exact h7
      · have h8 := Ev.same hk (down _ _ h4) (down _ _ h6)
        cases h8
    · refine .inr ⟨down _ _ h4, fun s hs u hu => .inr ⟨?_, fun t' ht' v hv => ?_⟩⟩
      · exact (Ev.more (a3 s hs)).2 ((Ev.put hsi (fun s' hs' => by injection hs' with hs'; subst hs'; exact a3 _ hs)).2 h1)
      · obtain rfl : t = t' := by rw [ht] at ht'; injection ht'
        have e2 : (a.put (some t) v).put (some s) u = (a.put (some s) u).put (some t) v := by rw [← hs]; exact e u v
        rw [more_comm, ← e2] at hv ⊢
        have hv' : KnownTo C R (more F t) (a.put (some t) v) := by
          obtain ⟨w, hC, hK⟩ := hv
          exact ⟨w, hC, (Knows.put (d := some s) (fun s' hs' => by injection hs' with hs'; subst hs'; exact hmj t ht _ hs)).1 hK.less⟩
        rcases h3 t ht v hv' with ⟨y, h6, h7⟩ | ⟨h6, h7⟩
        · have h8 := Ev.same hk (down _ _ h6) (down _ _ h4)
          cases h8
        · exact h7 s hs u hv

theorem fresh_next (hD : ∀ (k k' : Nat) (o o' : Oper) (t : Tmp), ops[k]? = some o → ops[k']? = some o' → o.dst = some t → o'.dst = some t → k = k') {listed : Array Bool} {F F1 : Tmp → Prop} {i : Nat} {oi : Oper} (hi : ops[i]? = some oi) (hun : listed.getD i true = false)
    (hf : ∀ (k : Nat) (o : Oper) (t : Tmp), ops[k]? = some o → listed.getD k true = false → o.dst = some t → ¬ F t) (h1 : F1 = F ∨ ∃ t, oi.dst = some t ∧ F1 = more F t) :
    ∀ (k : Nat) (o : Oper) (t : Tmp), ops[k]? = some o → (listed.setIfInBounds i true).getD k true = false → o.dst = some t → ¬ F1 t := by
  intro k o t hk hl ht
  have hki : i ≠ k := fun e => by
    subst e
    have : i < listed.size := by
      rcases Nat.lt_or_ge i listed.size with h' | h'
      · exact h'
      · simp [Array.getElem?_eq_none h'] at hun
    simp [this] at hl
  rw [getD_set_ne true hki] at hl
  rcases h1 with rfl | ⟨s, hs, rfl⟩
  · exact hf k o t hk hl ht
  · exact not_more (hf k o t hk hl ht) (fun e => hki (hD i k oi o s hi hk hs (by rw [ht, e])))

theorem anyR_first (hR : Stable C G R) (hD : ∀ (k k' : Nat) (o o' : Oper) (t : Tmp), ops[k]? = some o → ops[k']? = some o' → o.dst = some t → o'.dst = some t → k = k') (hsel : ∀ (j : Nat) (o : Oper) cs b, ops[j]? = some o → o.op ≠ .select cs b) {i : Nat} {oi : Oper} (hi : ops[i]? = some oi) :
    ∀ (n : Nat) (listed : Array Bool) (F : Tmp → Prop) (a : Act),
      (∀ j oj, ops[j]? = some oj → j ≠ i → listed.getD j true = false → (∀ e ∈ oj.after, Region.binds md e = true → e.on ≠ i) → oi.apart ops oj = true) →
      i ∈ Region.ready md ops listed → (∀ (k : Nat) (o : Oper) (t : Tmp), ops[k]? = some o → listed.getD k true = false → o.dst = some t → ¬ F t) → KnownTo C R F a →
      opAt P ops C G R oi (anyR P ops C G R md E n (listed.setIfInBounds i true)) F a → anyR P ops C G R md E (n + 1) listed F a := by
  intro n
  induction n with
  | zero =>
    intro listed F a _ hr hf hk H
    have hun := (mem_ready.1 hr).1
    refine ⟨fun h => (by rw [h] at hr; cases hr), fun j hj oj hoj => ?_⟩
    by_cases hji : j = i
    · subst hji
      rw [hi] at hoj
      injection hoj with hoj
      subst hoj
      exact H
    · obtain ⟨F', a', h0, -⟩ := opAt_some hR hk (fun t ht => hf i oi t hi hun ht) H
      have := ready_mono hj hji
      rw [h0] at this
      cases this
  | succ n ih =>
    intro listed F a hfree hr hf hk H
    have hun := (mem_ready.1 hr).1
    refine ⟨fun h => (by rw [h] at hr; cases hr), fun j hj oj hoj => ?_⟩
    by_cases hji : j = i
    · subst hji
      rw [hi] at hoj
      injection hoj with hoj
      subst hoj
      exact H
    · obtain ⟨hjun, oj', hoj', hall⟩ := mem_ready.1 hj
      rw [hoj] at hoj'
      injection hoj' with hoj'
      subst hoj'
      have hnot : ∀ e ∈ oj.after, Region.binds md e = true → e.on ≠ i := fun e he hb heq => by
        have h1 := hall e he hb
        rw [heq] at h1
        rcases Nat.lt_or_ge i listed.size with h' | h'
        · simp [h'] at hun h1; rw [hun] at h1; cases h1
        · simp [Array.getElem?_eq_none h'] at h1
      have hap := hfree j oj hoj hji hjun hnot
      have hfi : ∀ t, oi.dst = some t → ¬ F t := fun t ht => hf i oi t hi hun ht
      have hfj : ∀ t, oj.dst = some t → ¬ F t := fun t ht => hf j oj t hoj hjun ht
      have h1 := opAt_swap hR (K := anyR P ops C G R md E n ((listed.setIfInBounds i true).setIfInBounds j true)) hap (fun cs b => hsel i oi cs b hi) (fun cs b => hsel j oj cs b hoj) hk hfi hfj
        (opAt_mono hk hfi (fun F1 a1 _ _ h2 => h2.2 j (ready_mono hj hji) oj hoj) H)
      refine opAt_mono hk hfj (fun F1 a1 hk1 hF1 h2 => ?_) h1
      rw [Array.setIfInBounds_comm _ _ (Ne.symm hji)] at h2
      refine ih (listed.setIfInBounds j true) F1 a1 (fun k ok hok hki hun' hno => ?_) (ready_mono hr (Ne.symm hji)) (fresh_next hD hoj hjun hf hF1) hk1 h2
      refine hfree k ok hok hki ?_ hno
      by_cases hjk : j = k
      · subst hjk; exact hjun
      · rw [getD_set_ne true hjk] at hun'; exact hun'

theorem walkR_any (hR : Stable C G R) (hD : ∀ (k k' : Nat) (o o' : Oper) (t : Tmp), ops[k]? = some o → ops[k']? = some o' → o.dst = some t → o'.dst = some t → k = k') (hs : Region.noSelect ops = true) :
    ∀ (l : List Oper) (k : Nat) (listed : Array Bool) (F : Tmp → Prop) (a : Act), (∀ j, l[j]? = ops[k + j]?) → Region.lexFrom md ops l.length k listed = true →
      (∀ (k : Nat) (o : Oper) (t : Tmp), ops[k]? = some o → listed.getD k true = false → o.dst = some t → ¬ F t) → KnownTo C R F a → walkR P ops C G R E l F a → anyR P ops C G R md E l.length listed F a
  | [], _, _, _, _, _, hB, _, _, h => ⟨by simpa [Region.lexFrom] using hB, h⟩
  | o :: l, k, listed, F, a, hl, hB, hf, hk, h => by
    have h0 : ops[k]? = some o := by simpa using (hl 0).symm
    simp only [List.length_cons, Region.lexFrom, Bool.and_eq_true] at hB
    obtain ⟨⟨hr, hfr⟩, hB'⟩ := hB
    have hr' : k ∈ Region.ready md ops listed := by simpa using hr
    have hun := (mem_ready.1 hr').1
    refine anyR_first hR hD (Region.noSelect_spec hs) h0 l.length listed F a (Region.free_spec h0 hfr) hr' hf hk ?_
    refine opAt_mono hk (fun t ht => hf k o t h0 hun ht) (fun F1 a1 hk1 hF1 h2 => ?_) (show opAt P ops C G R o (walkR P ops C G R E l) F a from h)
    exact walkR_any hR hD hs l (k + 1) _ F1 a1 (fun j => by have := hl (j + 1); simpa [Nat.add_assoc, Nat.add_comm 1 j] using this) hB' (fresh_next hD h0 hun hf hF1) hk1 h2

/-- No two operations write one temporary. -/
def apartDst (l : List Oper) : Bool := (List.range l.length).all fun k => (List.range l.length).all fun k' => k == k' || match (l[k]?).bind (·.dst), (l[k']?).bind (·.dst) with
  | some s, some t => s != t
  | _, _ => true
theorem apartDst_spec {l : List Oper} (h : apartDst l = true) (k k' : Nat) (o o' : Oper) (t : Tmp) (ho : l.toArray[k]? = some o) (ho' : l.toArray[k']? = some o') (hd : o.dst = some t) (hd' : o'.dst = some t) : k = k' := by
  simp only [List.getElem?_toArray] at ho ho'
  have hk : k < l.length := (List.getElem?_eq_some_iff.1 ho).1
  have hk' : k' < l.length := (List.getElem?_eq_some_iff.1 ho').1
  simp only [apartDst, List.all_eq_true, List.mem_range] at h
  have h1 := h k hk k' hk'
  rw [ho, ho'] at h1
  simp only [Option.bind_some, hd, hd', bne_self_eq_false, Bool.or_false, beq_iff_eq] at h1
  exact h1

/-- **A region whose operations are written out, in a class of worlds, with relations.** -/
theorem wp_region_rel {P : Program} (C : World → Prop) (G : World → World → Prop) (R : Tmp → Option (Value → World → Prop)) {id : Nat} {Q : Exit → Act → World → Prop} {a : Act} {w : World} {l : List Oper}
    (hm : P.follows .mixedOrders = true) (hB : Region.lexB .any l.toArray = true) (hA : apartDst l = true) (hR : Stable C G R) (hC : C w.drew)
    (h : walkR P l.toArray C G R (fun F a' => ∀ w', C w' → Knows R F a' w' → Q .normal a' w') l (fun _ => False) a) : (Code.region id l.toArray true).wp P Q a w := by
  simp only [Region.lexB, Bool.and_eq_true] at hB
  have hD := apartDst_spec hA
  have hk : ∀ w, Knows R (fun _ => False) a w := fun w s hs => hs.elim
  refine wp_region_any hm (wpAny_of_anyR hR (E := fun F a' => ∀ w', C w' → Knows R F a' w' → Q .normal a' w') (fun F a w hC hK h => h w hC hK) hD _ _ (fun _ => False) a _ (fun _ _ _ _ _ _ h => h) hC (hk _) ?_)
  have := walkR_any (md := .any) hR hD hB.1 l 0 (Array.replicate l.toArray.size false) (fun _ => False) a (by simp) (by simpa using hB.2) (fun _ _ _ _ _ _ h => h) ⟨_, hC, hk _⟩ h
  simpa using this
end
end Go.Proofs.YtilkpjcbmllgmaaGreatDoor

namespace Go.Proofs.YtilkpjcbmllgmaaGreatDoor
set_option linter.unusedVariables false
set_option linter.unusedSimpArgs false
open Go.RowKit

theorem ret_str' {a b : ByteArray} (h : a = b) : Ending.returned (.string a) = .returned (.string b) := by rw [h]

/-- Block b is a row of these strings. -/
def StrRow (w : World) (b : Nat) (l : List ByteArray) : Prop := w.heap[b]? = some (.cells (l.map Value.string).toArray 9 (0, 0))

theorem setCell_heap_self {w : World} {b k : Nat} {c : Array Value} {t : TypeId} (h : w.heap[b]? = some (.cells c t (0, 0))) (x : Value) : (w.setCell ⟨b, k, none⟩ x).heap[b]? = some (.cells (c.setIfInBounds k x) t (0, 0)) := by
  have hlt := lt_of_block h
  have h' : w.heap[b] = .cells c t (0, 0) := by simpa [Array.getElem?_eq_getElem hlt] using h
  show (w.heap.modify b _)[b]? = _
  rw [Array.getElem?_eq_getElem (by simpa using hlt), Array.getElem_modify_self, h']
  rfl

section
variable {w w' : World} {b : Nat} {l : List ByteArray}
theorem StrRow.lt (h : StrRow w b l) : b < w.heap.size := lt_of_block h
theorem StrRow.cell (h : StrRow w b l) (k : Nat) (hk : k < l.length) : w.cell? ⟨b, k, none⟩ = some (.string l[k]) := by
  unfold StrRow at h
  simp [World.cell?, h, hk]
theorem StrRow.free (h : StrRow w b l) (k : Nat) : w.frozen? ⟨b, k, none⟩ = false := free_any h k
theorem StrRow.set (h : StrRow w b l) (k : Nat) (s : ByteArray) : StrRow (w.setCell ⟨b, k, none⟩ (.string s)) b (l.set k s) := by
  unfold StrRow
  rw [setCell_heap_self h]
  simp
theorem StrRow.kept (h : StrRow w b l) (hb : Below w.heap.size w w') : StrRow w' b l := blk_kept h hb
theorem StrRow.alloc (h : StrRow w b l) (o : Obj) : StrRow (w.alloc o) b l := h.kept ((Below.refl _ _).alloc (Nat.le_refl _) o)
theorem StrRow.made (w : World) (n : Nat) : StrRow (w.alloc (.cells (madeCells #[.string ⟨#[]⟩] n) 9)) w.heap.size (List.replicate n ⟨#[]⟩) := by
  unfold StrRow
  rw [heap_alloc_new]
  have e : madeCells #[.string ⟨#[]⟩] n = ((List.replicate n (⟨#[]⟩ : ByteArray)).map Value.string).toArray := by
    apply Array.ext
    · simp [madeCells]
    · intro i h1 h2
      simp [madeCells, Nat.mod_one]
  rw [e]
end

theorem infoS' : (Tryz.prog.info? 9).map (fun i => (i.zero, i.size, i.bytes)) = some (some (.string ⟨#[]⟩), 1, 16) := by kernel_rfl

theorem make_strs' (n : Nat) (hn : n ≤ 1000000000) (w : World) : (Instr.makeSlice 25 (.int .i64 (n : Int)) (.int .i64 (n : Int))).run Tryz.prog w = .ok (.slice (some ⟨w.heap.size, 0, none⟩) n n) (w.alloc (.cells (madeCells #[.string ⟨#[]⟩] n) 9)) := by
  obtain ⟨i0, hi, hz0, hz1, hz2⟩ := info_parts infoS'
  have hr := run_make (P := Tryz.prog) w 25 9 i0 _ Tryz.underlying25 hi hz0 .i64 .i64 (n : Int) (n : Int) (by omega) (by omega) (by rw [hz2]; omega) (by omega)
  rw [hz1] at hr
  simp only [Int.toNat_natCast, Nat.mul_one] at hr
  exact hr
end Go.Proofs.YtilkpjcbmllgmaaGreatDoor

namespace Go.Proofs
open Go.Shelf
def Tryz.lays169_ren : Go.Shelf.Ren := ⟨fun | 169 => 146 | n => n, fun | 70 => 142 | 9 => 9 | 0 => 0 | 72 => 144 | 37 => 64 | 127 => 154 | 3 => 3 | 5 => 5 | n => n, fun | n => n⟩
theorem Tryz.lays169 : Go.Proofs.Lays.n169 Tryz.prog Tryz.lays169_ren := {
  mixed := by kernel_rfl
  f169 := Tryz.func146.trans (congrArg some (by kernel_rfl))
  t0 := Tryz.underlying0
  a0 := Tryz.isAgg0
  z0 := Tryz.sizeOf0
  v0 := Tryz.zeroValue0
  t3 := Tryz.underlying3
  a3 := Tryz.isAgg3
  z3 := Tryz.sizeOf3
  v3 := Tryz.zeroValue3
  t9 := Tryz.underlying9
  a9 := Tryz.isAgg9
  z9 := Tryz.sizeOf9
  v9 := Tryz.zeroValue9
  t37 := Tryz.underlying64
  a37 := Tryz.isAgg64
  z37 := Tryz.sizeOf64
  v37 := Tryz.zeroValue64
  t70 := Tryz.underlying142
  a70 := Tryz.isAgg142
  z70 := Tryz.sizeOf142
  v70 := Tryz.zeroValue142
  t72 := Tryz.underlying144
  a72 := Tryz.isAgg144
  z72 := Tryz.sizeOf144
  v72 := Tryz.zeroValue144
  t127 := Tryz.underlying154
  a127 := Tryz.isAgg154
  z127 := Tryz.sizeOf154
  v127 := Tryz.zeroValue154 }
theorem Tryz.Builder_Extra_169 : Builder.Extra Tryz.prog Tryz.lays169_ren := {
  sizeBuilder := by kernel_rfl
  liesBuilder := by kernel_rfl
  t5 := Tryz.underlying5
  a5 := Tryz.isAgg5
  z5 := Tryz.sizeOf5
  v5 := Tryz.zeroValue5
  infoByte := by kernel_rfl
  cellsByte := by kernel_rfl
  sizeByte := by kernel_rfl
  neB5 := by decide }
open Go.RowKit in
/-- (*strings.Builder).String: "String returns the accumulated string.": OF A BUILDER THAT HOLDS AT LEAST ONE BYTE. ✋ THE MODEL FREEZES THOSE BYTES IN THE BUFFER (unsafe.String): a later write INTO them ends the model's run without an answer; a later append BEHIND them goes on. The statement's order of evaluation is drawn: one draw. (LAID: no walk: one application.) -/
theorem Tryz.Builder_String (B b : Nat) (l : List UInt8) (w : World) (h : Lib.IsBuilder 144 5 B b (Lib.byteCells l) w) (h0 : l ≠ []) :
    Calls Tryz.prog 146 #[.pointer (some ⟨b, 0, none⟩)] w fun e w' => e = .returned (.string ⟨l.toArray⟩) ∧ Below B w w' := Any.Builder_String Tryz.lays169 Tryz.Builder_Extra_169 B b l w h h0
open Go.RowKit in
/-- (*strings.Builder).String OF A BUILDER THAT HOLDS NO BYTE: the empty string. (Its buffer is nil, or a row of which it has taken nothing yet; where that row has NO capacity the model lays one new block for unsafe.SliceData's 'some address'.) One draw. (LAID: no walk: one application.) -/
theorem Tryz.Builder_String_empty (B b : Nat) (w : World) (h : Lib.IsBuilder 144 5 B b [] w) (hBw : B ≤ w.heap.size) :
    Calls Tryz.prog 146 #[.pointer (some ⟨b, 0, none⟩)] w fun e w' => e = .returned (.string ⟨#[]⟩) ∧ Below B w w' := Any.Builder_String_empty Tryz.lays169 Tryz.Builder_Extra_169 B b w h hBw
open Go.RowKit in
/-- (*strings.Builder).String: "String returns the accumulated string.": WHATEVER THE BUILDER HOLDS. (LAID: no walk: one application.) -/
theorem Tryz.Builder_String_any (B b : Nat) (l : List UInt8) (w : World) (h : Lib.IsBuilder 144 5 B b (Lib.byteCells l) w) (hBw : B ≤ w.heap.size) :
    Calls Tryz.prog 146 #[.pointer (some ⟨b, 0, none⟩)] w fun e w' => e = .returned (.string ⟨l.toArray⟩) ∧ Below B w w' := Any.Builder_String_any Tryz.lays169 Tryz.Builder_Extra_169 B b l w h hBw
def Tryz.lays241_ren : Go.Shelf.Ren := ⟨fun | 241 => 150 | 277 => 153 | n => n, fun | 70 => 142 | 3 => 3 | 0 => 0 | 72 => 144 | 37 => 64 | 5 => 5 | n => n, fun | n => n⟩
theorem Tryz.lays241 : Go.Proofs.Lays.n241 Tryz.prog Tryz.lays241_ren := {
  mixed := by kernel_rfl
  f241 := Tryz.func150.trans (congrArg some (by kernel_rfl))
  f277 := Tryz.func153.trans (congrArg some (by kernel_rfl))
  t0 := Tryz.underlying0
  a0 := Tryz.isAgg0
  z0 := Tryz.sizeOf0
  v0 := Tryz.zeroValue0
  t3 := Tryz.underlying3
  a3 := Tryz.isAgg3
  z3 := Tryz.sizeOf3
  v3 := Tryz.zeroValue3
  t37 := Tryz.underlying64
  a37 := Tryz.isAgg64
  z37 := Tryz.sizeOf64
  v37 := Tryz.zeroValue64
  t70 := Tryz.underlying142
  a70 := Tryz.isAgg142
  z70 := Tryz.sizeOf142
  v70 := Tryz.zeroValue142
  t72 := Tryz.underlying144
  a72 := Tryz.isAgg144
  z72 := Tryz.sizeOf144
  v72 := Tryz.zeroValue144 }
theorem Tryz.Builder_Extra_241 : Builder.Extra Tryz.prog Tryz.lays241_ren := {
  sizeBuilder := by kernel_rfl
  liesBuilder := by kernel_rfl
  t5 := Tryz.underlying5
  a5 := Tryz.isAgg5
  z5 := Tryz.sizeOf5
  v5 := Tryz.zeroValue5
  infoByte := by kernel_rfl
  cellsByte := by kernel_rfl
  sizeByte := by kernel_rfl
  neB5 := by decide }
open Go.RowKit in
/-- (*strings.Builder).grow (no doc but "grow copies the buffer to a new, larger buffer so that there are at least n bytes of capacity beyond len(b.buf)."): AT A BUILDER WITHOUT A BUFFER: a new row of whatever bytes for its buffer, none of them its own yet. Three draws. (LAID: no walk: one application.) -/
theorem Tryz.Builder_grow_fresh (B b n : Nat) (w : World) (hB : B ≤ b) (hbk : w.heap[b]? = some (.cells #[.pointer (some ⟨b, 0, none⟩), .slice none 0 0] 144 (0, 0))) (hBw : B ≤ w.heap.size) (hn : n ≤ 281474976710656) :
    Calls Tryz.prog 150 #[.pointer (some ⟨b, 0, none⟩), .int .i64 n] w fun e w' => e = .returned (.tuple #[]) ∧ (Lib.BuilderAt 144 5 B b (.pointer (some ⟨b, 0, none⟩)) [] w' ∧ Below B w w') := Any.Builder_grow_fresh Tryz.lays241 Tryz.Builder_Extra_241 B b n w hB hbk hBw hn
def Tryz.lays165_ren : Go.Shelf.Ren := ⟨fun | 165 => 144 | 240 => 149 | 241 => 150 | 276 => 152 | 277 => 153 | n => n, fun | 70 => 142 | 3 => 3 | 0 => 0 | 4 => 4 | 9 => 9 | 20 => 20 | 72 => 144 | 37 => 64 | 164 => 155 | 5 => 5 | n => n, fun | n => n⟩
theorem Tryz.lays165 : Go.Proofs.Lays.n165 Tryz.prog Tryz.lays165_ren := {
  mixed := by kernel_rfl
  f165 := Tryz.func144.trans (congrArg some (by kernel_rfl))
  f240 := Tryz.func149.trans (congrArg some (by kernel_rfl))
  f241 := Tryz.func150.trans (congrArg some (by kernel_rfl))
  f276 := Tryz.func152.trans (congrArg some (by kernel_rfl))
  f277 := Tryz.func153.trans (congrArg some (by kernel_rfl))
  t0 := Tryz.underlying0
  a0 := Tryz.isAgg0
  z0 := Tryz.sizeOf0
  v0 := Tryz.zeroValue0
  t3 := Tryz.underlying3
  a3 := Tryz.isAgg3
  z3 := Tryz.sizeOf3
  v3 := Tryz.zeroValue3
  t4 := Tryz.underlying4
  a4 := Tryz.isAgg4
  z4 := Tryz.sizeOf4
  v4 := Tryz.zeroValue4
  t9 := Tryz.underlying9
  a9 := Tryz.isAgg9
  z9 := Tryz.sizeOf9
  v9 := Tryz.zeroValue9
  t20 := Tryz.underlying20
  a20 := Tryz.isAgg20
  z20 := Tryz.sizeOf20
  v20 := Tryz.zeroValue20
  t37 := Tryz.underlying64
  a37 := Tryz.isAgg64
  z37 := Tryz.sizeOf64
  v37 := Tryz.zeroValue64
  t70 := Tryz.underlying142
  a70 := Tryz.isAgg142
  z70 := Tryz.sizeOf142
  v70 := Tryz.zeroValue142
  t72 := Tryz.underlying144
  a72 := Tryz.isAgg144
  z72 := Tryz.sizeOf144
  v72 := Tryz.zeroValue144
  t164 := Tryz.underlying155
  a164 := Tryz.isAgg155
  z164 := Tryz.sizeOf155
  v164 := Tryz.zeroValue155 }
theorem Tryz.Builder_Extra_165 : Builder.Extra Tryz.prog Tryz.lays165_ren := {
  sizeBuilder := by kernel_rfl
  liesBuilder := by kernel_rfl
  t5 := Tryz.underlying5
  a5 := Tryz.isAgg5
  z5 := Tryz.sizeOf5
  v5 := Tryz.zeroValue5
  infoByte := by kernel_rfl
  cellsByte := by kernel_rfl
  sizeByte := by kernel_rfl
  neB5 := by decide }
open Go.RowKit in
/-- (*strings.Builder).Grow AT A BUILDER THAT HAS NOT BEEN WRITTEN ('var b strings.Builder; b.Grow(n)'): "Grow grows b's capacity, if necessary, to guarantee space for another n bytes.": it holds no byte behind it as before it. (LAID: no walk: one application.) -/
theorem Tryz.Builder_Grow_fresh (B b n : Nat) (w : World) (hB : B ≤ b) (hbk : w.heap[b]? = some (.cells #[.pointer none, .slice none 0 0] 144 (0, 0))) (hBw : B ≤ w.heap.size) (hn : n ≤ 281474976710656) :
    Calls Tryz.prog 144 #[.pointer (some ⟨b, 0, none⟩), .int .i64 n] w fun e w' => e = .returned (.tuple #[]) ∧ (Lib.BuilderAt 144 5 B b (.pointer (some ⟨b, 0, none⟩)) [] w' ∧ Below B w w') := Any.Builder_Grow_fresh Tryz.lays165 Tryz.Builder_Extra_165 B b n w hB hbk hBw hn
def Tryz.lays156_ren : Go.Shelf.Ren := ⟨fun | 156 => 134 | 165 => 144 | 166 => 145 | 169 => 146 | 240 => 149 | 241 => 150 | 276 => 152 | 277 => 153 | n => n, fun | 31 => 25 | 9 => 9 | 3 => 3 | 4 => 4 | 0 => 0 | 20 => 20 | 72 => 144 | 76 => 148 | 70 => 142 | 37 => 64 | 75 => 147 | 127 => 154 | 164 => 155 | 5 => 5 | 80 => 150 | n => n, fun | n => n⟩
theorem Tryz.lays156 : Go.Proofs.Lays.n156 Tryz.prog Tryz.lays156_ren := {
  mixed := by kernel_rfl
  f156 := Tryz.func134.trans (congrArg some (by kernel_rfl))
  f165 := Tryz.func144.trans (congrArg some (by kernel_rfl))
  f166 := Tryz.func145.trans (congrArg some (by kernel_rfl))
  f169 := Tryz.func146.trans (congrArg some (by kernel_rfl))
  f240 := Tryz.func149.trans (congrArg some (by kernel_rfl))
  f241 := Tryz.func150.trans (congrArg some (by kernel_rfl))
  f276 := Tryz.func152.trans (congrArg some (by kernel_rfl))
  f277 := Tryz.func153.trans (congrArg some (by kernel_rfl))
  t0 := Tryz.underlying0
  a0 := Tryz.isAgg0
  z0 := Tryz.sizeOf0
  v0 := Tryz.zeroValue0
  t3 := Tryz.underlying3
  a3 := Tryz.isAgg3
  z3 := Tryz.sizeOf3
  v3 := Tryz.zeroValue3
  t4 := Tryz.underlying4
  a4 := Tryz.isAgg4
  z4 := Tryz.sizeOf4
  v4 := Tryz.zeroValue4
  t9 := Tryz.underlying9
  a9 := Tryz.isAgg9
  z9 := Tryz.sizeOf9
  v9 := Tryz.zeroValue9
  t20 := Tryz.underlying20
  a20 := Tryz.isAgg20
  z20 := Tryz.sizeOf20
  v20 := Tryz.zeroValue20
  t31 := Tryz.underlying25
  a31 := Tryz.isAgg25
  z31 := Tryz.sizeOf25
  v31 := Tryz.zeroValue25
  t37 := Tryz.underlying64
  a37 := Tryz.isAgg64
  z37 := Tryz.sizeOf64
  v37 := Tryz.zeroValue64
  t70 := Tryz.underlying142
  a70 := Tryz.isAgg142
  z70 := Tryz.sizeOf142
  v70 := Tryz.zeroValue142
  t72 := Tryz.underlying144
  a72 := Tryz.isAgg144
  z72 := Tryz.sizeOf144
  v72 := Tryz.zeroValue144
  t75 := Tryz.underlying147
  a75 := Tryz.isAgg147
  z75 := Tryz.sizeOf147
  v75 := Tryz.zeroValue147
  t76 := Tryz.underlying148
  a76 := Tryz.isAgg148
  z76 := Tryz.sizeOf148
  v76 := Tryz.zeroValue148
  t127 := Tryz.underlying154
  a127 := Tryz.isAgg154
  z127 := Tryz.sizeOf154
  v127 := Tryz.zeroValue154
  t164 := Tryz.underlying155
  a164 := Tryz.isAgg155
  z164 := Tryz.sizeOf155
  v164 := Tryz.zeroValue155 }
theorem Tryz.Builder_Extra_156 : Builder.Extra Tryz.prog Tryz.lays156_ren := {
  sizeBuilder := by kernel_rfl
  liesBuilder := by kernel_rfl
  t5 := Tryz.underlying5
  a5 := Tryz.isAgg5
  z5 := Tryz.sizeOf5
  v5 := Tryz.zeroValue5
  infoByte := by kernel_rfl
  cellsByte := by kernel_rfl
  sizeByte := by kernel_rfl
  neB5 := by decide }
open Go.RowKit in
/-- No element: the empty string; the world is as it was. (Whatever the slice's address and capacity: a nil slice too.) (LAID: no walk: one application.) -/
theorem Tryz.strings_Join_none (a : Option Addr) (c : Nat) (sep : ByteArray) (w : World) :
    Calls Tryz.prog 134 #[.slice a 0 c, .string sep] w fun e w' => e = .returned (.string ⟨#[]⟩) ∧ w' = w := Any.strings_Join_none Tryz.lays156 Tryz.Builder_Extra_156 a c sep w
open Go.RowKit in
/-- strings.Join: "Join concatenates the elements of its first argument to create a single string. The separator string sep is placed between elements in the resulting string.": HOWEVER MANY ELEMENTS. Below the heap's end the world is as it was. (LAID: no walk: one application.) -/
theorem Tryz.strings_Join (bk o c : Nat) (xs : List ByteArray) (sep : ByteArray) (w : World) (hcells : ∀ (j : Nat) x, xs[j]? = some x → w.cell? ⟨bk, o + j, none⟩ = some (.string x)) (hbk : bk < w.heap.size) (hN : xs.length ≤ 140737488355328) (hcap : xs.length ≤ c) (hlen : (Lib.join (xs.map (·.data.toList)) sep.data.toList).length ≤ 140737488355328) :
    Calls Tryz.prog 134 #[.slice (some ⟨bk, o, none⟩) xs.length c, .string sep] w fun e w' => e = .returned (.string ⟨(Lib.join (xs.map (·.data.toList)) sep.data.toList).toArray⟩) ∧ Below w.heap.size w w' := Any.strings_Join Tryz.lays156 Tryz.Builder_Extra_156 bk o c xs sep w hcells hbk hN hcap hlen
def Tryz.lays128_ren : Go.Shelf.Ren := ⟨fun | 128 => 128 | n => n, fun | 51 => 132 | 3 => 3 | 4 => 4 | 46 => 88 | 5 => 5 | 9 => 9 | n => n, fun | n => n⟩
theorem Tryz.lays128 : Go.Proofs.Lays.n128 Tryz.prog Tryz.lays128_ren := {
  mixed := by kernel_rfl
  f128 := Tryz.func128.trans (congrArg some (by kernel_rfl))
  t3 := Tryz.underlying3
  a3 := Tryz.isAgg3
  z3 := Tryz.sizeOf3
  v3 := Tryz.zeroValue3
  t4 := Tryz.underlying4
  a4 := Tryz.isAgg4
  z4 := Tryz.sizeOf4
  v4 := Tryz.zeroValue4
  t5 := Tryz.underlying5
  a5 := Tryz.isAgg5
  z5 := Tryz.sizeOf5
  v5 := Tryz.zeroValue5
  t9 := Tryz.underlying9
  a9 := Tryz.isAgg9
  z9 := Tryz.sizeOf9
  v9 := Tryz.zeroValue9
  t46 := Tryz.underlying88
  a46 := Tryz.isAgg88
  z46 := Tryz.sizeOf88
  v46 := Tryz.zeroValue88
  t51 := Tryz.underlying132
  a51 := Tryz.isAgg132
  z51 := Tryz.sizeOf132
  v51 := Tryz.zeroValue132 }
/-- bits.Len32: "Len32 returns the minimum number of bits required to represent x; the result is 0 for x == 0.": IT RETURNS 'Lib.bitLen x'; the world is as it was. ('h0', 'h1': x is a uint32.) (LAID: no walk: one application.) -/
theorem Tryz.bits_Len32 (x : Int) (w : World) (h0 : 0 ≤ x) (h1 : x ≤ 4294967295) :
    Calls Tryz.prog 128 #[.int .u32 x] w fun e w' => e = .returned (.int .i64 (Lib.bitLen x.toNat)) ∧ w' = w := Any.bits_Len32 Tryz.lays128 x w h0 h1
def Tryz.lays125_ren : Go.Shelf.Ren := ⟨fun | 125 => 110 | 128 => 128 | 129 => 129 | n => n, fun | 46 => 88 | 3 => 3 | 51 => 132 | 53 => 40 | 4 => 4 | 5 => 5 | 9 => 9 | n => n, fun | n => n⟩
theorem Tryz.lays125 : Go.Proofs.Lays.n125 Tryz.prog Tryz.lays125_ren := {
  mixed := by kernel_rfl
  f125 := Tryz.func110.trans (congrArg some (by kernel_rfl))
  f128 := Tryz.func128.trans (congrArg some (by kernel_rfl))
  f129 := Tryz.func129.trans (congrArg some (by kernel_rfl))
  t3 := Tryz.underlying3
  a3 := Tryz.isAgg3
  z3 := Tryz.sizeOf3
  v3 := Tryz.zeroValue3
  t4 := Tryz.underlying4
  a4 := Tryz.isAgg4
  z4 := Tryz.sizeOf4
  v4 := Tryz.zeroValue4
  t5 := Tryz.underlying5
  a5 := Tryz.isAgg5
  z5 := Tryz.sizeOf5
  v5 := Tryz.zeroValue5
  t9 := Tryz.underlying9
  a9 := Tryz.isAgg9
  z9 := Tryz.sizeOf9
  v9 := Tryz.zeroValue9
  t46 := Tryz.underlying88
  a46 := Tryz.isAgg88
  z46 := Tryz.sizeOf88
  v46 := Tryz.zeroValue88
  t51 := Tryz.underlying132
  a51 := Tryz.isAgg132
  z51 := Tryz.sizeOf132
  v51 := Tryz.zeroValue132
  t53 := Tryz.underlying40
  a53 := Tryz.isAgg40
  z53 := Tryz.sizeOf40
  v53 := Tryz.zeroValue40 }
/-- bits.Len: "Len returns the minimum number of bits required to represent x; the result is 0 for x == 0.": IT RETURNS 'Lib.bitLen x'; the world is as it was. (A uint has 64 bits in the model.) ITS CALLEE bits.Len64 IS MET BY ITS OWN CONTRACT OFF THE SHELF (lay that first). (LAID: no walk: one application.) -/
theorem Tryz.bits_Len (x : Int) (w : World) (h0 : 0 ≤ x) (h1 : x ≤ 18446744073709551615) :
    Calls Tryz.prog 110 #[.int .u64 x] w fun e w' => e = .returned (.int .i64 (Lib.bitLen x.toNat)) ∧ w' = w := Any.bits_Len Tryz.lays125 x w h0 h1
open Go.RowKit in
/-- (*strings.Builder).String: "String returns the accumulated string.": OF A BUILDER THAT HOLDS AT LEAST ONE BYTE. ✋ THE MODEL FREEZES THOSE BYTES IN THE BUFFER (unsafe.String): a later write INTO them ends the model's run without an answer; a later append BEHIND them goes on. The statement's order of evaluation is drawn: one draw. THE FORM '_f': IT SAYS BESIDES THAT THE BUILDER IS A BUILDER STILL ('Lib.IsBuilderF', the same bytes): SO IT CAN BE WRITTEN ON: 'b.WriteString(b.String()[:k])'. (LAID: no walk: one application.) -/
theorem Tryz.Builder_String_f (B b : Nat) (l : List UInt8) (w : World) (h : Lib.IsBuilderF 144 5 B b (Lib.byteCells l) w) (h0 : l ≠ []) :
    Calls Tryz.prog 146 #[.pointer (some ⟨b, 0, none⟩)] w fun e w' => e = .returned (.string ⟨l.toArray⟩) ∧ (Lib.IsBuilderF 144 5 B b (Lib.byteCells l) w' ∧ Below B w w') := Any.Builder_String_f Tryz.lays169 Tryz.Builder_Extra_169 B b l w h h0
open Go.RowKit in
/-- (*strings.Builder).String OF A BUILDER THAT HOLDS NO BYTE: the empty string; THE FORM '_f': a builder still. (LAID: no walk: one application.) -/
theorem Tryz.Builder_String_empty_f (B b : Nat) (w : World) (h : Lib.IsBuilderF 144 5 B b [] w) (hBw : B ≤ w.heap.size) :
    Calls Tryz.prog 146 #[.pointer (some ⟨b, 0, none⟩)] w fun e w' => e = .returned (.string ⟨#[]⟩) ∧ (Lib.IsBuilderF 144 5 B b [] w' ∧ Below B w w') := Any.Builder_String_empty_f Tryz.lays169 Tryz.Builder_Extra_169 B b w h hBw
open Go.RowKit in
/-- (*strings.Builder).String: "String returns the accumulated string.": WHATEVER THE BUILDER HOLDS; THE FORM '_f': OF A BUILDER THAT MAY HAVE BEEN READ BEFORE; AND IT IS A BUILDER STILL, holding the same bytes: it can be written on. (LAID: no walk: one application.) -/
theorem Tryz.Builder_String_any_f (B b : Nat) (l : List UInt8) (w : World) (h : Lib.IsBuilderF 144 5 B b (Lib.byteCells l) w) (hBw : B ≤ w.heap.size) :
    Calls Tryz.prog 146 #[.pointer (some ⟨b, 0, none⟩)] w fun e w' => e = .returned (.string ⟨l.toArray⟩) ∧ (Lib.IsBuilderF 144 5 B b (Lib.byteCells l) w' ∧ Below B w w') := Any.Builder_String_any_f Tryz.lays169 Tryz.Builder_Extra_169 B b l w h hBw
open Go.RowKit in
/-- (*strings.Builder).String: "String returns the accumulated string.": OF A BUILDER THAT HOLDS AT LEAST ONE BYTE. ✋ THE MODEL FREEZES THOSE BYTES IN THE BUFFER (unsafe.String): a later write INTO them ends the model's run without an answer; a later append BEHIND them goes on. The statement's order of evaluation is drawn: one draw. THE FORM '_k': OVER 'Lib.IsBuilderF' (a builder that 'String()' may have read), AND WITH THE FRAME THAT REACHES ABOVE THE BUILDER: 'Lib.OthersKept': every block that is not b and is no row of uint8's stands as it stood: the iterator of a range among them. (LAID: no walk: one application.) -/
theorem Tryz.Builder_String_k (B b : Nat) (l : List UInt8) (w : World) (h : Lib.IsBuilderF 144 5 B b (Lib.byteCells l) w) (h0 : l ≠ []) :
    Calls Tryz.prog 146 #[.pointer (some ⟨b, 0, none⟩)] w fun e w' => e = .returned (.string ⟨l.toArray⟩) ∧ (Lib.IsBuilderF 144 5 B b (Lib.byteCells l) w' ∧ Below B w w' ∧ Lib.OthersKept 5 (some b) w w') := Any.Builder_String_k Tryz.lays169 Tryz.Builder_Extra_169 B b l w h h0
open Go.RowKit in
/-- (*strings.Builder).String OF A BUILDER THAT HOLDS NO BYTE: the empty string; THE FORM '_k': OVER 'Lib.IsBuilderF' (a builder that 'String()' may have read), AND WITH THE FRAME THAT REACHES ABOVE THE BUILDER: 'Lib.OthersKept': every block that is not b and is no row of uint8's stands as it stood: the iterator of a range among them. (LAID: no walk: one application.) -/
theorem Tryz.Builder_String_empty_k (B b : Nat) (w : World) (h : Lib.IsBuilderF 144 5 B b [] w) (hBw : B ≤ w.heap.size) :
    Calls Tryz.prog 146 #[.pointer (some ⟨b, 0, none⟩)] w fun e w' => e = .returned (.string ⟨#[]⟩) ∧ (Lib.IsBuilderF 144 5 B b [] w' ∧ Below B w w' ∧ Lib.OthersKept 5 (some b) w w') := Any.Builder_String_empty_k Tryz.lays169 Tryz.Builder_Extra_169 B b w h hBw
open Go.RowKit in
/-- (*strings.Builder).String: "String returns the accumulated string.": WHATEVER THE BUILDER HOLDS; THE FORM '_k': OVER 'Lib.IsBuilderF' (a builder that 'String()' may have read), AND WITH THE FRAME THAT REACHES ABOVE THE BUILDER: 'Lib.OthersKept': every block that is not b and is no row of uint8's stands as it stood: the iterator of a range among them. (LAID: no walk: one application.) -/
theorem Tryz.Builder_String_any_k (B b : Nat) (l : List UInt8) (w : World) (h : Lib.IsBuilderF 144 5 B b (Lib.byteCells l) w) (hBw : B ≤ w.heap.size) :
    Calls Tryz.prog 146 #[.pointer (some ⟨b, 0, none⟩)] w fun e w' => e = .returned (.string ⟨l.toArray⟩) ∧ (Lib.IsBuilderF 144 5 B b (Lib.byteCells l) w' ∧ Below B w w' ∧ Lib.OthersKept 5 (some b) w w') := Any.Builder_String_any_k Tryz.lays169 Tryz.Builder_Extra_169 B b l w h hBw
open Go.RowKit in
/-- (*strings.Builder).grow (no doc but "grow copies the buffer to a new, larger buffer so that there are at least n bytes of capacity beyond len(b.buf)."): AT A BUILDER WITHOUT A BUFFER: a new row of whatever bytes for its buffer, none of them its own yet. Three draws. (LAID: no walk: one application.) -/
theorem Tryz.Builder_grow_fresh_cap (B b n : Nat) (w : World) (hB : B ≤ b) (hbk : w.heap[b]? = some (.cells #[.pointer (some ⟨b, 0, none⟩), .slice none 0 0] 144 (0, 0))) (hBw : B ≤ w.heap.size) (hn : n ≤ 281474976710656) :
    Calls Tryz.prog 150 #[.pointer (some ⟨b, 0, none⟩), .int .i64 n] w fun e w' => e = .returned (.tuple #[]) ∧ (Lib.BuilderAt 144 5 B b (.pointer (some ⟨b, 0, none⟩)) [] w' ∧ Below B w w') ∧ ∃ p cap, w'.cell? ⟨b, 1, none⟩ = some (.slice p 0 cap) ∧ n ≤ cap := Any.Builder_grow_fresh_cap Tryz.lays241 Tryz.Builder_Extra_241 B b n w hB hbk hBw hn
open Go.RowKit in
/-- (*strings.Builder).Grow AT A BUILDER THAT HAS NOT BEEN WRITTEN ('var b strings.Builder; b.Grow(n)'): "Grow grows b's capacity, if necessary, to guarantee space for another n bytes.": it holds no byte behind it as before it. (LAID: no walk: one application.) -/
theorem Tryz.Builder_Grow_fresh_cap (B b n : Nat) (w : World) (hB : B ≤ b) (hbk : w.heap[b]? = some (.cells #[.pointer none, .slice none 0 0] 144 (0, 0))) (hBw : B ≤ w.heap.size) (hn : n ≤ 281474976710656) :
    Calls Tryz.prog 144 #[.pointer (some ⟨b, 0, none⟩), .int .i64 n] w fun e w' => e = .returned (.tuple #[]) ∧ (Lib.BuilderAt 144 5 B b (.pointer (some ⟨b, 0, none⟩)) [] w' ∧ Below B w w') ∧ ∃ p cap, w'.cell? ⟨b, 1, none⟩ = some (.slice p 0 cap) ∧ n ≤ cap := Any.Builder_Grow_fresh_cap Tryz.lays165 Tryz.Builder_Extra_165 B b n w hB hbk hBw hn
def Tryz.lays129_ren : Go.Shelf.Ren := ⟨fun | 129 => 129 | n => n, fun | 53 => 40 | 3 => 3 | 4 => 4 | 46 => 88 | 5 => 5 | 9 => 9 | n => n, fun | n => n⟩
theorem Tryz.lays129 : Go.Proofs.Lays.n129 Tryz.prog Tryz.lays129_ren := {
  mixed := by kernel_rfl
  f129 := Tryz.func129.trans (congrArg some (by kernel_rfl))
  t3 := Tryz.underlying3
  a3 := Tryz.isAgg3
  z3 := Tryz.sizeOf3
  v3 := Tryz.zeroValue3
  t4 := Tryz.underlying4
  a4 := Tryz.isAgg4
  z4 := Tryz.sizeOf4
  v4 := Tryz.zeroValue4
  t5 := Tryz.underlying5
  a5 := Tryz.isAgg5
  z5 := Tryz.sizeOf5
  v5 := Tryz.zeroValue5
  t9 := Tryz.underlying9
  a9 := Tryz.isAgg9
  z9 := Tryz.sizeOf9
  v9 := Tryz.zeroValue9
  t46 := Tryz.underlying88
  a46 := Tryz.isAgg88
  z46 := Tryz.sizeOf88
  v46 := Tryz.zeroValue88
  t53 := Tryz.underlying40
  a53 := Tryz.isAgg40
  z53 := Tryz.sizeOf40
  v53 := Tryz.zeroValue40 }
/-- bits.Len64: "Len64 returns the minimum number of bits required to represent x; the result is 0 for x == 0.": IT RETURNS 'Lib.bitLen x'; the world is as it was. ('h0', 'h1': x is a uint64.) (LAID: no walk: one application.) -/
theorem Tryz.bits_Len64 (x : Int) (w : World) (h0 : 0 ≤ x) (h1 : x ≤ 18446744073709551615) :
    Calls Tryz.prog 129 #[.int .u64 x] w fun e w' => e = .returned (.int .i64 (Lib.bitLen x.toNat)) ∧ w' = w := Any.bits_Len64 Tryz.lays129 x w h0 h1
def Tryz.lays190_ren : Go.Shelf.Ren := ⟨fun | 190 => 89 | 125 => 110 | 258 => 109 | 128 => 128 | 129 => 129 | 302 => 119 | 303 => 120 | 304 => 121 | 305 => 122 | 306 => 123 | 307 => 124 | 308 => 125 | 309 => 126 | 310 => 127 | 333 => 135 | 329 => 136 | 330 => 137 | 334 => 138 | 335 => 139 | 336 => 140 | 344 => 147 | n => n, fun | 31 => 25 | 9 => 9 | 3 => 3 | 46 => 88 | 0 => 0 | 51 => 132 | 53 => 40 | 4 => 4 | 183 => 124 | 182 => 123 | 131 => 129 | 5 => 5 | 218 => 136 | 222 => 139 | 228 => 151 | 229 => 152 | n => n, fun | n => n⟩
theorem Tryz.lays190 : Go.Proofs.Lays.n190 Tryz.prog Tryz.lays190_ren := {
  mixed := by kernel_rfl
  f125 := Tryz.func110.trans (congrArg some (by kernel_rfl))
  f128 := Tryz.func128.trans (congrArg some (by kernel_rfl))
  f129 := Tryz.func129.trans (congrArg some (by kernel_rfl))
  f190 := Tryz.func89.trans (congrArg some (by kernel_rfl))
  f258 := Tryz.func109.trans (congrArg some (by kernel_rfl))
  f302 := Tryz.func119.trans (congrArg some (by kernel_rfl))
  f303 := Tryz.func120.trans (congrArg some (by kernel_rfl))
  f304 := Tryz.func121.trans (congrArg some (by kernel_rfl))
  f305 := Tryz.func122.trans (congrArg some (by kernel_rfl))
  f306 := Tryz.func123.trans (congrArg some (by kernel_rfl))
  f307 := Tryz.func124.trans (congrArg some (by kernel_rfl))
  f308 := Tryz.func125.trans (congrArg some (by kernel_rfl))
  f309 := Tryz.func126.trans (congrArg some (by kernel_rfl))
  f310 := Tryz.func127.trans (congrArg some (by kernel_rfl))
  f329 := Tryz.func136.trans (congrArg some (by kernel_rfl))
  f330 := Tryz.func137.trans (congrArg some (by kernel_rfl))
  f333 := Tryz.func135.trans (congrArg some (by kernel_rfl))
  f334 := Tryz.func138.trans (congrArg some (by kernel_rfl))
  f335 := Tryz.func139.trans (congrArg some (by kernel_rfl))
  f336 := Tryz.func140.trans (congrArg some (by kernel_rfl))
  f344 := Tryz.func147.trans (congrArg some (by kernel_rfl))
  t0 := Tryz.underlying0
  a0 := Tryz.isAgg0
  z0 := Tryz.sizeOf0
  v0 := Tryz.zeroValue0
  t3 := Tryz.underlying3
  a3 := Tryz.isAgg3
  z3 := Tryz.sizeOf3
  v3 := Tryz.zeroValue3
  t4 := Tryz.underlying4
  a4 := Tryz.isAgg4
  z4 := Tryz.sizeOf4
  v4 := Tryz.zeroValue4
  t5 := Tryz.underlying5
  a5 := Tryz.isAgg5
  z5 := Tryz.sizeOf5
  v5 := Tryz.zeroValue5
  t9 := Tryz.underlying9
  a9 := Tryz.isAgg9
  z9 := Tryz.sizeOf9
  v9 := Tryz.zeroValue9
  t31 := Tryz.underlying25
  a31 := Tryz.isAgg25
  z31 := Tryz.sizeOf25
  v31 := Tryz.zeroValue25
  t46 := Tryz.underlying88
  a46 := Tryz.isAgg88
  z46 := Tryz.sizeOf88
  v46 := Tryz.zeroValue88
  t51 := Tryz.underlying132
  a51 := Tryz.isAgg132
  z51 := Tryz.sizeOf132
  v51 := Tryz.zeroValue132
  t53 := Tryz.underlying40
  a53 := Tryz.isAgg40
  z53 := Tryz.sizeOf40
  v53 := Tryz.zeroValue40
  t131 := Tryz.underlying129
  a131 := Tryz.isAgg129
  z131 := Tryz.sizeOf129
  v131 := Tryz.zeroValue129
  t182 := Tryz.underlying123
  a182 := Tryz.isAgg123
  z182 := Tryz.sizeOf123
  v182 := Tryz.zeroValue123
  t183 := Tryz.underlying124
  a183 := Tryz.isAgg124
  z183 := Tryz.sizeOf124
  v183 := Tryz.zeroValue124
  t218 := Tryz.underlying136
  a218 := Tryz.isAgg136
  z218 := Tryz.sizeOf136
  v218 := Tryz.zeroValue136
  t222 := Tryz.underlying139
  a222 := Tryz.isAgg139
  z222 := Tryz.sizeOf139
  v222 := Tryz.zeroValue139
  t228 := Tryz.underlying151
  a228 := Tryz.isAgg151
  z228 := Tryz.sizeOf151
  v228 := Tryz.zeroValue151
  t229 := Tryz.underlying152
  a229 := Tryz.isAgg152
  z229 := Tryz.sizeOf152
  v229 := Tryz.zeroValue152 }
open Go.Sort Go.RowKit in
theorem Tryz.slices_Sort_string (blk off cap : Nat) (ss : List (List UInt8)) (w : World) (hH : Holds encStr w blk off ss.toArray) (hblk : blk < w.heap.size) (hsz : ss.length < 4611686018427387904) :
    Calls Tryz.prog 89 #[.slice (some ⟨blk, off, none⟩) ss.length cap] w fun e w' =>
      e = .returned (.tuple #[]) ∧ ∃ n os, w' = grow (putRow encStr (Sort.ahead w n) blk off (ss.mergeSort fun x y => decide (x ≤ y)).toArray) os := Any.slices_Sort_string Tryz.lays190 blk off cap ss w hH hblk hsz
def Tryz.lays206_ren : Go.Shelf.Ren := ⟨fun | 206 => 141 | n => n, fun | 9 => 9 | 4 => 4 | 3 => 3 | n => n, fun | n => n⟩
theorem Tryz.lays206 : Go.Proofs.Lays.n206 Tryz.prog Tryz.lays206_ren := {
  mixed := by kernel_rfl
  f206 := Tryz.func141.trans (congrArg some (by kernel_rfl))
  t3 := Tryz.underlying3
  a3 := Tryz.isAgg3
  z3 := Tryz.sizeOf3
  v3 := Tryz.zeroValue3
  t4 := Tryz.underlying4
  a4 := Tryz.isAgg4
  z4 := Tryz.sizeOf4
  v4 := Tryz.zeroValue4
  t9 := Tryz.underlying9
  a9 := Tryz.isAgg9
  z9 := Tryz.sizeOf9
  v9 := Tryz.zeroValue9 }
open Go.RowKit Go.Lib in
/-- internal/stringslite.HasPrefix (what strings.HasPrefix calls). (LAID: no walk: one application.) -/
theorem Tryz.stringslite_HasPrefix (s p : ByteArray) (w : World) :
    Calls Tryz.prog 141 #[.string s, .string p] w fun e w' => e = .returned (.bool (Lib.hasPrefix s.data.toList p.data.toList)) ∧ w' = w := Any.stringslite_HasPrefix Tryz.lays206 s p w
def Tryz.lays99_ren : Go.Shelf.Ren := ⟨fun | 99 => 130 | 206 => 141 | n => n, fun | 9 => 9 | 4 => 4 | 3 => 3 | n => n, fun | n => n⟩
theorem Tryz.lays99 : Go.Proofs.Lays.n99 Tryz.prog Tryz.lays99_ren := {
  mixed := by kernel_rfl
  f99 := Tryz.func130.trans (congrArg some (by kernel_rfl))
  f206 := Tryz.func141.trans (congrArg some (by kernel_rfl))
  t3 := Tryz.underlying3
  a3 := Tryz.isAgg3
  z3 := Tryz.sizeOf3
  v3 := Tryz.zeroValue3
  t4 := Tryz.underlying4
  a4 := Tryz.isAgg4
  z4 := Tryz.sizeOf4
  v4 := Tryz.zeroValue4
  t9 := Tryz.underlying9
  a9 := Tryz.isAgg9
  z9 := Tryz.sizeOf9
  v9 := Tryz.zeroValue9 }
open Go.RowKit Go.Lib in
/-- strings.HasPrefix: "HasPrefix reports whether the string s begins with prefix.": IT RETURNS 'Lib.hasPrefix s prefix'; the world is as it was. (LAID: no walk: one application.) -/
theorem Tryz.strings_HasPrefix (s p : ByteArray) (w : World) :
    Calls Tryz.prog 130 #[.string s, .string p] w fun e w' => e = .returned (.bool (Lib.hasPrefix s.data.toList p.data.toList)) ∧ w' = w := Any.strings_HasPrefix Tryz.lays99 s p w
open Go.RowKit Go.Sort in
/-- .. and plain. (LAID: no walk: one application.) -/
theorem Tryz.slices_Sort_string_none (p : Option Addr) (cap : Nat) (w : World) :
    Calls Tryz.prog 89 #[.slice p 0 cap] w fun e w' => e = .returned (.tuple #[]) ∧ w' = w := Any.slices_Sort_string_none Tryz.lays190 p cap w
def Tryz.mkeys_ren : Go.Shelf.Ren := ⟨fun | 7 => 51 | 10 => 90 | n => n, fun | 23 => 66 | 26 => 9 | 3 => 4 | 28 => 72 | 0 => 0 | 27 => 71 | 33 => 85 | 4 => 4 | n => n, fun | n => n⟩
theorem Tryz.mkeys : Go.Proofs.SlLaysZ.n7 Tryz.prog Tryz.mkeys_ren := {
  mixed := by kernel_rfl
  f7 := ⟨Tryz.f51.name, by decide, Tryz.func51.trans (congrArg some (by kernel_rfl))⟩
  f10 := ⟨Tryz.f90.name, by decide, Tryz.func90.trans (congrArg some (by kernel_rfl))⟩
  t0 := Tryz.underlying0
  a0 := Tryz.isAgg0
  z0 := Tryz.sizeOf0
  v0 := Tryz.zeroValue0
  t4 := Tryz.underlying4
  a4 := Tryz.isAgg4
  z4 := Tryz.sizeOf4
  v4 := Tryz.zeroValue4
  t23 := Tryz.underlying66
  a23 := Tryz.isAgg66
  z23 := Tryz.sizeOf66
  v23 := Tryz.zeroValue66
  t26 := Tryz.underlying9
  a26 := Tryz.isAgg9
  z26 := Tryz.sizeOf9
  v26 := Tryz.zeroValue9
  t27 := Tryz.underlying71
  a27 := Tryz.isAgg71
  z27 := Tryz.sizeOf71
  v27 := Tryz.zeroValue71
  t28 := Tryz.underlying72
  a28 := Tryz.isAgg72
  z28 := Tryz.sizeOf72
  v28 := Tryz.zeroValue72
  t33 := Tryz.underlying85
  a33 := Tryz.isAgg85
  z33 := Tryz.sizeOf85
  v33 := Tryz.zeroValue85 }
def Tryz.msorted_ren : Go.Shelf.Ren := ⟨fun | 6 => 50 | 8 => 88 | 9 => 89 | 11 => 108 | 13 => 110 | 12 => 109 | 23 => 128 | 24 => 129 | 14 => 119 | 15 => 120 | 16 => 121 | 17 => 122 | 18 => 123 | 19 => 124 | 20 => 125 | 21 => 126 | 22 => 127 | 25 => 135 | 26 => 136 | 27 => 137 | 28 => 138 | 29 => 139 | 30 => 140 | 31 => 147 | n => n, fun | 26 => 9 | 28 => 72 | 24 => 25 | 0 => 0 | 3 => 3 | 37 => 88 | 48 => 132 | 50 => 40 | 4 => 4 | 40 => 124 | 39 => 123 | 45 => 129 | 5 => 5 | 9 => 9 | 51 => 136 | 55 => 139 | 57 => 151 | 58 => 152 | 33 => 85 | n => n, fun | n => n⟩
theorem Tryz.msorted : Go.Proofs.SlLaysZ.n6 Tryz.prog Tryz.msorted_ren := {
  mixed := by kernel_rfl
  f6 := ⟨Tryz.f50.name, by decide, Tryz.func50.trans (congrArg some (by kernel_rfl))⟩
  f8 := ⟨Tryz.f88.name, by decide, Tryz.func88.trans (congrArg some (by kernel_rfl))⟩
  f11 := ⟨Tryz.f108.name, by decide, Tryz.func108.trans (congrArg some (by kernel_rfl))⟩
  t0 := Tryz.underlying0
  a0 := Tryz.isAgg0
  z0 := Tryz.sizeOf0
  v0 := Tryz.zeroValue0
  t24 := Tryz.underlying25
  a24 := Tryz.isAgg25
  z24 := Tryz.sizeOf25
  v24 := Tryz.zeroValue25
  t26 := Tryz.underlying9
  a26 := Tryz.isAgg9
  z26 := Tryz.sizeOf9
  v26 := Tryz.zeroValue9
  t28 := Tryz.underlying72
  a28 := Tryz.isAgg72
  z28 := Tryz.sizeOf72
  v28 := Tryz.zeroValue72
  i26 := by kernel_rfl }
def Tryz.msort_ren : Go.Shelf.Ren := ⟨fun | 6 => 89 | 8 => 110 | 9 => 109 | 19 => 128 | 20 => 129 | 21 => 119 | 22 => 120 | 23 => 121 | 24 => 122 | 25 => 123 | 26 => 124 | 27 => 125 | 28 => 126 | 29 => 127 | 36 => 135 | 31 => 136 | 32 => 137 | 37 => 138 | 38 => 139 | 39 => 140 | 41 => 147 | n => n, fun | 27 => 25 | 29 => 9 | 3 => 3 | 32 => 88 | 26 => 25 | 0 => 0 | 44 => 132 | 46 => 40 | 4 => 4 | 36 => 124 | 35 => 123 | 41 => 129 | 5 => 5 | 9 => 9 | 53 => 136 | 57 => 139 | 63 => 151 | 64 => 152 | n => n, fun | n => n⟩
theorem Tryz.msort : Go.Proofs.SlLaysM.n6 Tryz.prog Tryz.msort_ren := {
  mixed := by kernel_rfl
  f6 := ⟨Tryz.f89.name, by decide, Tryz.func89.trans (congrArg some (by kernel_rfl))⟩
  f8 := Tryz.func110.trans (congrArg some (by kernel_rfl))
  f9 := ⟨Tryz.f109.name, by decide, Tryz.func109.trans (congrArg some (by kernel_rfl))⟩
  f19 := Tryz.func128.trans (congrArg some (by kernel_rfl))
  f20 := Tryz.func129.trans (congrArg some (by kernel_rfl))
  f21 := ⟨Tryz.f119.name, by decide, Tryz.func119.trans (congrArg some (by kernel_rfl))⟩
  f22 := ⟨Tryz.f120.name, by decide, Tryz.func120.trans (congrArg some (by kernel_rfl))⟩
  f23 := ⟨Tryz.f121.name, by decide, Tryz.func121.trans (congrArg some (by kernel_rfl))⟩
  f24 := ⟨Tryz.f122.name, by decide, Tryz.func122.trans (congrArg some (by kernel_rfl))⟩
  f25 := ⟨Tryz.f123.name, by decide, Tryz.func123.trans (congrArg some (by kernel_rfl))⟩
  f26 := ⟨Tryz.f124.name, by decide, Tryz.func124.trans (congrArg some (by kernel_rfl))⟩
  f27 := ⟨Tryz.f125.name, by decide, Tryz.func125.trans (congrArg some (by kernel_rfl))⟩
  f28 := ⟨Tryz.f126.name, by decide, Tryz.func126.trans (congrArg some (by kernel_rfl))⟩
  f29 := ⟨Tryz.f127.name, by decide, Tryz.func127.trans (congrArg some (by kernel_rfl))⟩
  f31 := Tryz.func136.trans (congrArg some (by kernel_rfl))
  f32 := Tryz.func137.trans (congrArg some (by kernel_rfl))
  f36 := ⟨Tryz.f135.name, by decide, Tryz.func135.trans (congrArg some (by kernel_rfl))⟩
  f37 := ⟨Tryz.f138.name, by decide, Tryz.func138.trans (congrArg some (by kernel_rfl))⟩
  f38 := ⟨Tryz.f139.name, by decide, Tryz.func139.trans (congrArg some (by kernel_rfl))⟩
  f39 := ⟨Tryz.f140.name, by decide, Tryz.func140.trans (congrArg some (by kernel_rfl))⟩
  f41 := ⟨Tryz.f147.name, by decide, Tryz.func147.trans (congrArg some (by kernel_rfl))⟩
  t0 := Tryz.underlying0
  a0 := Tryz.isAgg0
  z0 := Tryz.sizeOf0
  v0 := Tryz.zeroValue0
  t3 := Tryz.underlying3
  a3 := Tryz.isAgg3
  z3 := Tryz.sizeOf3
  v3 := Tryz.zeroValue3
  t4 := Tryz.underlying4
  a4 := Tryz.isAgg4
  z4 := Tryz.sizeOf4
  v4 := Tryz.zeroValue4
  t5 := Tryz.underlying5
  a5 := Tryz.isAgg5
  z5 := Tryz.sizeOf5
  v5 := Tryz.zeroValue5
  t9 := Tryz.underlying9
  a9 := Tryz.isAgg9
  z9 := Tryz.sizeOf9
  v9 := Tryz.zeroValue9
  t26 := Tryz.underlying25
  a26 := Tryz.isAgg25
  z26 := Tryz.sizeOf25
  v26 := Tryz.zeroValue25
  t27 := Tryz.underlying25
  a27 := Tryz.isAgg25
  z27 := Tryz.sizeOf25
  v27 := Tryz.zeroValue25
  t29 := Tryz.underlying9
  a29 := Tryz.isAgg9
  z29 := Tryz.sizeOf9
  v29 := Tryz.zeroValue9
  t32 := Tryz.underlying88
  a32 := Tryz.isAgg88
  z32 := Tryz.sizeOf88
  v32 := Tryz.zeroValue88
  t35 := Tryz.underlying123
  a35 := Tryz.isAgg123
  z35 := Tryz.sizeOf123
  v35 := Tryz.zeroValue123
  t36 := Tryz.underlying124
  a36 := Tryz.isAgg124
  z36 := Tryz.sizeOf124
  v36 := Tryz.zeroValue124
  t41 := Tryz.underlying129
  a41 := Tryz.isAgg129
  z41 := Tryz.sizeOf129
  v41 := Tryz.zeroValue129
  t44 := Tryz.underlying132
  a44 := Tryz.isAgg132
  z44 := Tryz.sizeOf132
  v44 := Tryz.zeroValue132
  t46 := Tryz.underlying40
  a46 := Tryz.isAgg40
  z46 := Tryz.sizeOf40
  v46 := Tryz.zeroValue40
  t53 := Tryz.underlying136
  a53 := Tryz.isAgg136
  z53 := Tryz.sizeOf136
  v53 := Tryz.zeroValue136
  t57 := Tryz.underlying139
  a57 := Tryz.isAgg139
  z57 := Tryz.sizeOf139
  v57 := Tryz.zeroValue139
  t63 := Tryz.underlying151
  a63 := Tryz.isAgg151
  z63 := Tryz.sizeOf151
  v63 := Tryz.zeroValue151
  t64 := Tryz.underlying152
  a64 := Tryz.isAgg152
  z64 := Tryz.sizeOf152
  v64 := Tryz.zeroValue152 }
end Go.Proofs

namespace Go.Proofs.YtilkpjcbmllgmaaGreatDoor
set_option linter.unusedVariables false
set_option linter.unusedSimpArgs false
open Go.RowKit

def strengthI (t : Tree) : Int := if t.op = 8 then 1 else if t.op = 7 then 2 else if t.op = 6 then 3 else if t.op = 5 then 4 else 5

/-- In parentheses if the strength is less. -/
def partB (s : ByteArray) (n least : Int) : ByteArray := if n < least then ⟨#[40]⟩ ++ s ++ ⟨#[41]⟩ else s

/-- Texts with a sign between them. -/
def joinB (sign : ByteArray) : List ByteArray → ByteArray
  | [] => ⟨#[]⟩
  | s :: l => l.foldl (fun a b => a ++ sign ++ b) s

mutual
/-- The text of a formula. -/
def textB : Tree → ByteArray
  | .node op name ts =>
    if op = 1 then ⟨#[49]⟩ else if op = 2 then ⟨#[48]⟩
    else if op = 4 then ⟨#[126]⟩ ++ (textsB 5 ts).headD ⟨#[]⟩
    else if op = 5 then joinB ⟨#[32, 38, 32]⟩ (textsB 5 ts)
    else if op = 6 then joinB ⟨#[32, 124, 32]⟩ (textsB 4 ts)
    else if op = 7 then (textsB 3 ts).headD ⟨#[]⟩ ++ ⟨#[32, 45, 62, 32]⟩ ++ (textsB 2 ts).getD 1 ⟨#[]⟩
    else if op = 8 then joinB ⟨#[32, 60, 45, 62, 32]⟩ (textsB 2 ts)
    else name
def textsB (least : Int) : List Tree → List ByteArray
  | [] => []
  | t :: ts => partB (textB t) (strengthI t) least :: textsB least ts
end

theorem textsB_map (least : Int) : ∀ ts, textsB least ts = ts.map fun t => partB (textB t) (strengthI t) least
  | [] => rfl
  | t :: ts => by rw [textsB, textsB_map least ts]; rfl

def wellB (t : Tree) : Bool := kindB t && nameB t

theorem vn_size {s : ByteArray} (h : vn s = true) : s.size ≤ 12 := by
  simp only [vn, Bool.and_eq_true, decide_eq_true_eq] at h
  exact h.1.2
theorem nameB_size {t : Tree} (h : nameB t = true) : t.name.size ≤ 12 := by
  unfold nameB at h
  split at h
  · exact vn_size h
  · have := beq_iff_eq.1 h; omega
theorem size_nil : (⟨#[]⟩ : ByteArray).size = 0 := rfl
theorem size_lp : (⟨#[40]⟩ : ByteArray).size = 1 := rfl
theorem size_rp : (⟨#[41]⟩ : ByteArray).size = 1 := rfl

theorem size_append (a b : ByteArray) : (a ++ b).size = a.size + b.size := ByteArray.size_append
theorem partB_size (s : ByteArray) (n l : Int) : (partB s n l).size ≤ s.size + 2 := by
  unfold partB
  split
  · rw [size_append, size_append, size_lp, size_rp]; omega
  · omega
theorem joinB_size (sign : ByteArray) (l : List ByteArray) : (joinB sign l).size ≤ (l.map fun s => s.size + sign.size).sum := by
  cases l with
  | nil => simp only [joinB, size_nil]; omega
  | cons s l =>
    have key : ∀ (l : List ByteArray) (a : ByteArray), (l.foldl (fun a b => a ++ sign ++ b) a).size = a.size + (l.map fun s => s.size + sign.size).sum := by
      intro l
      induction l with
      | nil => simp
      | cons b l ih => intro a; rw [List.foldl_cons, ih]; simp only [size_append, List.map_cons, List.sum_cons]; omega
    simp only [joinB, key, List.map_cons, List.sum_cons]
    omega

theorem allL_mem {p : Tree → Bool} {l : List Tree} (h : allL p l = true) : ∀ t ∈ l, t.all p = true := by
  induction l with
  | nil => intro t ht; cases ht
  | cons a l ih =>
    simp only [allL, Bool.and_eq_true] at h
    intro t ht
    rcases List.mem_cons.1 ht with rfl | ht
    · exact h.1
    · exact ih h.2 t ht
theorem all_self {p : Tree → Bool} {op name ts} (h : (Tree.node op name ts).all p = true) : p (.node op name ts) = true ∧ allL p ts = true := by
  simpa [Tree.all] using h

/-- The texts of names are short. -/
theorem textB_size : ∀ t : Tree, t.all nameB = true → (textB t).size + 8 ≤ 20 * t.nodes := by
  refine Tree.ind fun op name ts ih h => ?_
  obtain ⟨h1, h2⟩ := all_self h
  have hn : name.size ≤ 12 := nameB_size h1
  have hsum : ∀ (k : Nat) (least : Int), k ≤ 5 → ((textsB least ts).map fun s => s.size + k).sum ≤ 20 * nodesL ts := by
    intro k least hk
    rw [textsB_map]
    have hm := allL_mem h2
    clear h h1 h2 hn
    induction ts with
    | nil => simp
    | cons t ts ih2 =>
      have h3 := ih t (by simp) (hm t (by simp))
      have h4 := ih2 (fun t ht => ih t (by simp [ht])) (fun t ht => hm t (by simp [ht]))
      have h5 := partB_size (textB t) (strengthI t) least
      simp only [List.map_cons, List.sum_cons, nodesL]
      omega
  have hhead : ∀ (least : Int) (i : Nat), ((textsB least ts).getD i ⟨#[]⟩).size ≤ 20 * nodesL ts := by
    intro least i
    have h0 := hsum 0 least (by omega)
    simp only [Nat.add_zero] at h0
    refine Nat.le_trans ?_ h0
    generalize textsB least ts = l
    induction l generalizing i with
    | nil => simp only [List.getD_nil, size_nil]; omega
    | cons s l ih3 =>
      cases i with
      | zero => simp
      | succ i => have := ih3 i; simp only [List.getD_cons_succ, List.map_cons, List.sum_cons]; omega
  have htwo : (((textsB 3 ts).getD 0 ⟨#[]⟩)).size + ((textsB 2 ts).getD 1 ⟨#[]⟩).size ≤ 20 * nodesL ts := by
    rw [textsB_map, textsB_map]
    have hm := allL_mem h2
    clear hsum hhead h h1 h2
    rcases ts with _ | ⟨t, _ | ⟨u, l⟩⟩
    · simp only [List.map_nil, List.getD_nil, size_nil]; omega
    · have h3 := ih t (by simp) (hm t (by simp))
      have h5 := partB_size (textB t) (strengthI t) 3
      simp only [nodesL, List.map_cons, List.map_nil, List.getD_cons_zero, List.getD_cons_succ, List.getD_nil, size_nil]
      omega
    · have h3 := ih t (by simp) (hm t (by simp))
      have h4 := ih u (by simp) (hm u (by simp))
      have h5 := partB_size (textB t) (strengthI t) 3
      have h6 := partB_size (textB u) (strengthI u) 2
      simp only [nodesL, List.map_cons, List.getD_cons_zero, List.getD_cons_succ]
      omega
  have hj : ∀ (sign : ByteArray) (least : Int), sign.size ≤ 5 → (joinB sign (textsB least ts)).size ≤ 20 * nodesL ts := fun sign least hs => Nat.le_trans (joinB_size _ _) (hsum _ _ hs)
  have hd := hhead 5 0
  rw [show ∀ l : List ByteArray, l.getD 0 ⟨#[]⟩ = l.headD ⟨#[]⟩ from fun l => by cases l <;> rfl] at hd
  rw [show ∀ l : List ByteArray, l.getD 0 ⟨#[]⟩ = l.headD ⟨#[]⟩ from fun l => by cases l <;> rfl] at htwo
  have j1 := hj ⟨#[32, 38, 32]⟩ 5 (by decide)
  have j2 := hj ⟨#[32, 124, 32]⟩ 4 (by decide)
  have j3 := hj ⟨#[32, 60, 45, 62, 32]⟩ 2 (by decide)
  have e1 : (⟨#[126]⟩ : ByteArray).size = 1 := rfl
  have e2 : (⟨#[32, 45, 62, 32]⟩ : ByteArray).size = 4 := rfl
  have e3 : (⟨#[49]⟩ : ByteArray).size = 1 := rfl
  have e4 : (⟨#[48]⟩ : ByteArray).size = 1 := rfl
  simp only [textB, Tree.nodes]
  repeat' split
  all_goals (try simp only [size_append])
  all_goals omega

theorem join_eq (sign : ByteArray) (l : List ByteArray) : (⟨(Lib.join (l.map (·.data.toList)) sign.data.toList).toArray⟩ : ByteArray) = joinB sign l := by
  have key : ∀ (l : List ByteArray) (s : ByteArray), (⟨(s.data.toList ++ Lib.joinTail sign.data.toList (l.map (·.data.toList))).toArray⟩ : ByteArray) = l.foldl (fun a b => a ++ sign ++ b) s := by
    intro l
    induction l with
    | nil => intro s; simp [Lib.joinTail]
    | cons b l ih =>
      intro s
      rw [List.foldl_cons, ← ih]
      congr 1
      simp [Lib.joinTail, ByteArray.data_append]
  cases l with
  | nil => rfl
  | cons s l => rw [List.map_cons, Lib.join_cons]; exact key l s

/-- text, at this formula. -/
def TextOk (t : Tree) : Prop := ∀ (v : Value) (w : World), FormAt w none v t → Calls Tryz.prog 99 #[v] w fun e w' => e = .returned (.string (textB t)) ∧ Below w.heap.size w w'

set_option maxHeartbeats 400000 in
theorem strength_any (t : Tree) (v : Value) (w : World) (h : FormAt w none v t) :
    Calls Tryz.prog 133 #[v] w fun e w' => e = .returned (.int .i64 (strengthI t)) ∧ Below w.heap.size w w' := by
  obtain ⟨a, cap, b, off, rfl, hop, hname, hlen, hcap, -, -⟩ := h.form
  have hK : Hid (strengthI t = if t.op = 8 then 1 else if t.op = 7 then 2 else if t.op = 6 then 3 else if t.op = 5 then 4 else 5) := rfl
  have hb : Hid (Below w.heap.size w (w.alloc (.cells #[.int .i64 t.op, .string t.name, .slice a t.args.length cap] 24))) := (Below.refl _ _).alloc (Nat.le_refl _) _
  generalize strengthI t = kb at *
  generalize t.args.length = n at *
  generalize t.op = op at *
  generalize t.name = nm at *
  clear h
  go_enter Tryz.func133, Tryz.ntmps133
  go_wp2
  all_goals (go_ret; refine ⟨ret_int ?_, hb.out⟩; rw [hK.out]; grind)

set_option maxHeartbeats 400000 in
theorem part_any (t : Tree) (ht : TextOk t) (hsz : (textB t).size ≤ 1000000) (v : Value) (least : Int) (hl : 0 ≤ least) (hl' : least ≤ 9) (w : World) (h : FormAt w none v t) :
    Calls Tryz.prog 115 #[v, .int .i64 least] w fun e w' => e = .returned (.string (partB (textB t) (strengthI t) least)) ∧ Below w.heap.size w w' := by
  obtain ⟨a, cap, b, off, rfl, hop, hname, hlen, hcap, -, -⟩ := h.form
  have H := hidIt (h.go ((Below.refl _ _).alloc (Nat.le_refl _) (.cells #[.int .i64 t.op, .string t.name, .slice a t.args.length cap] 24)))
  have HT := hidIt ht
  clear h ht
  by_cases hlt : strengthI t < least
  · have HE : Hid (partB (textB t) (strengthI t) least = ⟨#[40]⟩ ++ textB t ++ ⟨#[41]⟩) := by show _ = _; simp [partB, hlt]
    go_enter Tryz.func115, Tryz.ntmps115
    go_wp2_with fail
    refine (strength_any t _ _ H.out).mono ?_
    rintro e w' ⟨rfl, hb⟩
    have HB := hidIt (below_box hb)
    obtain ⟨p0, p1, p2⟩ := cell_of3 (laid_box hb)
    have hsz : w.heap.size < w'.heap.size := lt_of_block (laid_box hb)
    have HF := hidIt (H.out.go hb)
    clear hb
    go_wp2_with fail
    refine (HT.out _ _ HF.out).mono ?_
    rintro e w2 ⟨rfl, hb2⟩
    have HB2 := hidIt (HB.out.trans (hb2.mono HB.out.size))
    clear hb2
    go_wp2_with fail
    go_ret
    exact ⟨ret_str' HE.out.symm, HB2.out⟩
  · have HE : Hid (partB (textB t) (strengthI t) least = textB t) := by show _ = _; simp [partB, hlt]
    go_enter Tryz.func115, Tryz.ntmps115
    go_wp2_with fail
    refine (strength_any t _ _ H.out).mono ?_
    rintro e w' ⟨rfl, hb⟩
    have HB := hidIt (below_box hb)
    obtain ⟨p0, p1, p2⟩ := cell_of3 (laid_box hb)
    have hsz : w.heap.size < w'.heap.size := lt_of_block (laid_box hb)
    have HF := hidIt (H.out.go hb)
    clear hb
    go_wp2_with fail
    refine (HT.out _ _ HF.out).mono ?_
    rintro e w2 ⟨rfl, hb2⟩
    have HB2 := hidIt (HB.out.trans (hb2.mono HB.out.size))
    clear hb2
    go_wp2_with fail
    go_ret
    exact ⟨ret_str' HE.out.symm, HB2.out⟩

theorem sum_map_le {α : Type} (l : List α) (f : α → Nat) (B : Nat) (h : ∀ x ∈ l, f x ≤ B) : (l.map f).sum ≤ l.length * B := by
  induction l with
  | nil => simp
  | cons x l ih =>
    have h1 := h x (by simp)
    have h2 := ih fun y hy => h y (by simp [hy])
    simp only [List.map_cons, List.sum_cons, List.length_cons, Nat.add_mul]
    omega

theorem take_set_snoc {α : Type} (l m : List α) (k : Nat) (x : α) (hk : k < l.length) (hm : k < m.length) (hx : x = m[k]) (h : l.take k = m.take k) : (l.set k x).take (k + 1) = m.take (k + 1) := by
  rw [take_snoc' m k hm, take_snoc' _ k (by rw [List.length_set]; exact hk), List.take_set_of_le (Nat.le_refl _), h, List.getElem_set_self, hx]

set_option maxRecDepth 100000 in
set_option maxHeartbeats 1000000 in
theorem joined_any (sign : ByteArray) (hs : sign.size ≤ 5) (least : Int) (hl : 0 ≤ least) (hl' : least ≤ 9) (ts : List Tree) (ht : ∀ t ∈ ts, TextOk t) (hsz : ∀ t ∈ ts, (textB t).size ≤ 1000000) (hn : ts.length ≤ 600) (a : Option Addr) (cap : Nat) (w : World) (h : FormsAt w none a ts) :
    Calls Tryz.prog 116 #[.slice a ts.length cap, .string sign, .int .i64 least] w fun e w' => e = .returned (.string (joinB sign (textsB least ts))) ∧ Below w.heap.size w w' := by
  have HF := hidIt h
  have HT := hidIt ht
  have HS := hidIt hsz
  have hmk := fun w => make_strs' ts.length (by omega) w
  obtain ⟨parts, hparts⟩ : ∃ p, p = textsB least ts := ⟨_, rfl⟩
  have hpl : parts.length = ts.length := by rw [hparts, textsB_map, List.length_map]
  have hpk : Hid (∀ k (h1 : k < parts.length) (h2 : k < ts.length), parts[k] = partB (textB ts[k]) (strengthI ts[k]) least) := by
    intro k h1 h2
    subst hparts
    simp only [textsB_map, List.getElem_map]
  have hps : Hid ((Lib.join (parts.map (·.data.toList)) sign.data.toList).length ≤ 140737488355328) := by
    have e : (Lib.join (parts.map (·.data.toList)) sign.data.toList).length = (joinB sign parts).size := by
      rw [← join_eq]
      simp [ByteArray.size]
    have h1 := joinB_size sign parts
    have h2 := sum_map_le parts (fun s => s.size + sign.size) 1000010 (fun s hs' => by
      obtain ⟨k, hk, rfl⟩ := List.mem_iff_getElem.1 hs'
      have hk2 : k < ts.length := by omega
      have e2 := hpk.out k hk hk2
      have h3 := partB_size (textB ts[k]) (strengthI ts[k]) least
      have h4 := hsz _ (List.getElem_mem hk2)
      show parts[k].size + sign.size ≤ _
      rw [e2]
      omega)
    show _ ≤ _
    rw [e]
    have h5 : parts.length * 1000010 ≤ 600 * 1000010 := Nat.mul_le_mul_right _ (by omega)
    omega
  rw [← hparts]
  clear h ht hsz hparts
  go_enter Tryz.func116, Tryz.ntmps116
  go_wp2_with fail
  go_loopw [15] (fun i wr => ∃ (k : Nat) (l : List ByteArray), k ≤ ts.length ∧ i = .int .i64 k ∧ Hid (l.length = ts.length) ∧ Hid (l.take k = parts.take k) ∧ Hid (StrRow wr w.heap.size l) ∧ Hid (Below w.heap.size w wr)) (fun i _ => ts.length - (intOf i).toNat)
  case atStart => exact ⟨0, List.replicate ts.length ⟨#[]⟩, Nat.zero_le _, rfl, by show _ = _; simp, by show _ = _; simp, StrRow.made w _, (Below.refl _ _).alloc (Nat.le_refl _) _⟩
  case round =>
    clear hmk
    obtain ⟨k, l, hk, rfl, hll, hlk, hrow, hbel⟩ := hrel
    by_cases hlt : k < ts.length
    · obtain ⟨b, off, a', c', rfl, c0, c1, c2, hf⟩ := (HF.out.go hbel.out).at k hlt
      have HF1 := hidIt hf
      have hm : ts[k] ∈ ts := List.getElem_mem hlt
      have htk := hidIt (HT.out _ hm)
      have hsk := HS.out _ hm
      have hx := hidIt (hpk.out k (by omega) hlt)
      clear hf
      generalize ts[k] = t at *
      go_wp2_with fail
      refine (part_any t htk.out hsk _ least hl hl' _ (HF1.out.go ((Below.refl _ _).alloc (Nat.le_refl _) _))).mono ?_
      rintro e w' ⟨rfl, hb⟩
      have hrow' := hrow.out.kept (below_box hb)
      have HR := hidIt hrow'
      have s0 := hrow'.cell k (by rw [hll.out]; exact hlt)
      have f0 := hrow'.free k
      have hsz := hrow'.lt
      have HB := hidIt (hbel.out.trans ((below_box hb).mono hbel.out.size))
      clear hb hrow'
      go_wp2_with fail
      go_roundw
      case rel =>
        exact ⟨k + 1, l.set k (partB (textB t) (strengthI t) least), by omega, by go_num, by show _ = _; rw [List.length_set]; exact hll.out,
          take_set_snoc l parts k _ (by rw [hll.out]; exact hlt) (by omega) hx.out.symm hlk.out, HR.out.set k _, HB.out.setCell (Nat.le_refl _) _⟩
      case measure => simp [intOf]; omega
    · have hkn : k = ts.length := by omega
      have hlp : Hid (l = parts) := by
        have := hlk.out
        rwa [List.take_of_length_le (by rw [hll.out]; omega), List.take_of_length_le (by omega)] at this
      have hrow' := hrow.out
      rw [hlp.out] at hrow'
      have HJ := hidIt (Tryz.strings_Join w.heap.size 0 ts.length parts sign wr (fun j x hj => by
        obtain ⟨hj1, hj2⟩ := List.getElem?_eq_some_iff.1 hj
        rw [Nat.zero_add, ← hj2]
        exact hrow'.cell j hj1) hrow'.lt (by omega) (by omega) hps.out)
      rw [hpl] at HJ
      clear hrow' hkn
      go_wp2_with fail
      refine HJ.out.mono ?_
      rintro e w2 ⟨rfl, hb2⟩
      have HB2 := hidIt (hbel.out.trans (hb2.mono hbel.out.size))
      clear hb2
      go_wp2
      go_ret
      exact ⟨ret_str' (join_eq sign parts), HB2.out⟩

theorem len_two {α : Type} {l : List α} (h : l.length = 2) : ∃ t u, l = [t, u] := by
  match l, h with
  | [t, u], _ => exact ⟨t, u, rfl⟩

theorem kindB_args {t : Tree} (h : kindB t = true) : (t.op = 4 → t.args.length = 1) ∧ (t.op = 5 ∨ t.op = 6 → 2 ≤ t.args.length ∧ t.args.length ≤ 6) ∧ (t.op = 7 ∨ t.op = 8 → t.args.length = 2) := by
  unfold kindB at h
  refine ⟨fun e => ?_, fun e => ?_, fun e => ?_⟩ <;> grind

theorem wellB_split {p q : Tree → Bool} : ∀ t : Tree, t.all (fun t => p t && q t) = (t.all p && t.all q) := by
  refine Tree.ind fun op name ts ih => ?_
  have key : allL (fun t => p t && q t) ts = (allL p ts && allL q ts) := by
    induction ts with
    | nil => rfl
    | cons t ts ih2 =>
      simp only [allL, ih t (by simp), ih2 fun t ht => ih t (by simp [ht])]
      generalize t.all p = x1; generalize t.all q = x2; generalize allL p ts = x3; generalize allL q ts = x4
      cases x1 <;> cases x2 <;> cases x3 <;> cases x4 <;> rfl
  simp only [Tree.all, key]
  generalize p (.node op name ts) = x1; generalize q (.node op name ts) = x2; generalize allL p ts = x3; generalize allL q ts = x4
  cases x1 <;> cases x2 <;> cases x3 <;> cases x4 <;> rfl

set_option maxRecDepth 100000 in
set_option maxHeartbeats 1000000 in
theorem text_any : ∀ t : Tree, t.all kindB = true → t.all nameB = true → t.nodes ≤ 600 → TextOk t := by
  refine Tree.ind fun op name ts ih hk hnm hn v w hv => ?_
  obtain ⟨k1, k2⟩ := all_self hk
  obtain ⟨n1, n2⟩ := all_self hnm
  have hargs := kindB_args k1
  have hnn : 1 + nodesL ts ≤ 600 := by simpa [Tree.nodes] using hn
  have hlen := nodes_len_le ts
  have IH : ∀ t ∈ ts, TextOk t := fun t ht => ih t ht (allL_mem k2 t ht) (allL_mem n2 t ht) (by have := nodes_mem_le ht; omega)
  have HSZ : ∀ t ∈ ts, (textB t).size ≤ 1000000 := fun t ht => by have := textB_size t (allL_mem n2 t ht); have := nodes_mem_le ht; omega
  obtain ⟨a, cap, b, off, rfl, hop, hname, hlen', hcap, -, -⟩ := hv.form
  have HFS := hidIt hv.forms
  simp only [Tree.op_node, Tree.name_node, Tree.args_node] at *
  have hop8 : op = 1 ∨ op = 2 ∨ op = 3 ∨ op = 4 ∨ op = 5 ∨ op = 6 ∨ op = 7 ∨ op = 8 := by
    unfold kindB at k1
    simp only [Tree.op_node] at k1
    grind
  clear ih hk hnm k1 k2 n1 n2 hv hn hop
  obtain ⟨h4, h5, h7⟩ := hargs
  have IHH := hidIt IH
  have HSZH := hidIt HSZ
  clear IH HSZ
  rcases hop8 with rfl | rfl | rfl | rfl | rfl | rfl | rfl | rfl
  · have HE : Hid (textB (.node 1 name ts) = ⟨#[49]⟩) := by show _ = _; simp [textB]
    clear h4 h5 h7
    go_enter Tryz.func99, Tryz.ntmps99
    go_wp2_with fail
    go_ret
    exact ⟨ret_str' HE.out.symm, (Below.refl _ _).alloc (Nat.le_refl _) _⟩
  · have HE : Hid (textB (.node 2 name ts) = ⟨#[48]⟩) := by show _ = _; simp [textB]
    clear h4 h5 h7
    go_enter Tryz.func99, Tryz.ntmps99
    go_wp2_with fail
    go_ret
    exact ⟨ret_str' HE.out.symm, (Below.refl _ _).alloc (Nat.le_refl _) _⟩
  · have HE : Hid (textB (.node 3 name ts) = name) := by show _ = _; simp [textB]
    clear h4 h5 h7
    go_enter Tryz.func99, Tryz.ntmps99
    go_wp2_with fail
    go_ret
    exact ⟨ret_str' HE.out.symm, (Below.refl _ _).alloc (Nat.le_refl _) _⟩
  · obtain ⟨t, rfl⟩ : ∃ t, ts = [t] := List.length_eq_one_iff.1 (h4 rfl)
    have HE : Hid (textB (.node 4 name [t]) = ⟨#[126]⟩ ++ partB (textB t) (strengthI t) 5) := by show _ = _; simp [textB, textsB]
    have ht := hidIt (IHH.out t (by simp))
    have hts := HSZH.out t (by simp)
    have hps := partB_size (textB t) (strengthI t) 5
    obtain ⟨b', off', a', c', rfl, c0, c1, c2, hf⟩ := HFS.out.at 0 (by simp)
    simp only [List.getElem_cons_zero] at c0 c1 c2 hf
    have HF := hidIt hf
    have hbl := World.block_lt_of_cell? w ⟨b', off' + 0 * 3, none⟩ c0
    simp only [Nat.zero_mul, Nat.add_zero, List.length_singleton] at c0 c1 c2 hbl hlen'
    have h01 : ([t] : List Tree).length = 1 := rfl
    rw [h01]
    clear hf h4 h5 h7
    go_enter Tryz.func99, Tryz.ntmps99
    go_wp2_with fail
    refine (part_any t ht.out hts _ 5 (by omega) (by omega) _ (HF.out.go ((Below.refl _ _).alloc (Nat.le_refl _) _))).mono ?_
    rintro e w' ⟨rfl, hb⟩
    have HB := hidIt (below_box hb)
    clear hb
    go_wp2_with fail
    go_ret
    exact ⟨ret_str' HE.out.symm, HB.out⟩
  · have HE : Hid (textB (.node 5 name ts) = joinB ⟨#[32, 38, 32]⟩ (textsB 5 ts)) := by show _ = _; simp [textB]
    clear h4 h5 h7
    go_enter Tryz.func99, Tryz.ntmps99
    go_wp2_with fail
    refine (joined_any ⟨#[32, 38, 32]⟩ (by decide) 5 (by omega) (by omega) ts IHH.out HSZH.out (by omega) a cap _ (HFS.out.go ((Below.refl _ _).alloc (Nat.le_refl _) _))).mono ?_
    rintro e w' ⟨rfl, hb⟩
    have HB := hidIt (below_box hb)
    clear hb
    go_wp2_with fail
    go_ret
    exact ⟨ret_str' HE.out.symm, HB.out⟩
  · have HE : Hid (textB (.node 6 name ts) = joinB ⟨#[32, 124, 32]⟩ (textsB 4 ts)) := by show _ = _; simp [textB]
    clear h4 h5 h7
    go_enter Tryz.func99, Tryz.ntmps99
    go_wp2_with fail
    refine (joined_any ⟨#[32, 124, 32]⟩ (by decide) 4 (by omega) (by omega) ts IHH.out HSZH.out (by omega) a cap _ (HFS.out.go ((Below.refl _ _).alloc (Nat.le_refl _) _))).mono ?_
    rintro e w' ⟨rfl, hb⟩
    have HB := hidIt (below_box hb)
    clear hb
    go_wp2_with fail
    go_ret
    exact ⟨ret_str' HE.out.symm, HB.out⟩
  · obtain ⟨t, u, rfl⟩ : ∃ t u, ts = [t, u] := len_two (h7 (.inl rfl))
    have HE : Hid (textB (.node 7 name [t, u]) = partB (textB t) (strengthI t) 3 ++ ⟨#[32, 45, 62, 32]⟩ ++ partB (textB u) (strengthI u) 2) := by show _ = _; simp [textB, textsB]
    have ht := hidIt (IHH.out t (by simp))
    have hts := HSZH.out t (by simp)
    have hps := partB_size (textB t) (strengthI t) 3
    have hu := hidIt (IHH.out u (by simp))
    have hus := HSZH.out u (by simp)
    have hpu := partB_size (textB u) (strengthI u) 2
    obtain ⟨b', off', a', c', rfl, c0, c1, c2, hf⟩ := HFS.out.at 0 (by simp)
    obtain ⟨b2, off2, a2, c2', e2, d0, d1, d2, hf2⟩ := HFS.out.at 1 (by simp)
    obtain ⟨rfl, rfl⟩ : b2 = b' ∧ off2 = off' := by
      injection e2 with e2
      injection e2 with e3 e4
      exact ⟨e3.symm, e4.symm⟩
    simp only [List.getElem_cons_zero, List.getElem_cons_succ] at c0 c1 c2 hf d0 d1 d2 hf2
    simp only [Nat.zero_mul, Nat.add_zero, Nat.one_mul] at c0 c1 c2 d0 d1 d2
    simp only [List.length_cons, List.length_nil] at hlen'
    have h01 : ([t, u] : List Tree).length = 2 := rfl
    rw [h01]
    have HBX : Hid (Below w.heap.size w (w.alloc (.cells #[.int .i64 7, .string name, .slice (some ⟨b2, off2, none⟩) 2 cap] 24))) := (Below.refl _ _).alloc (Nat.le_refl _) _
    have hbl := World.block_lt_of_cell? w ⟨b2, off2, none⟩ c0
    have k2 : (w.alloc (.cells #[.int .i64 7, .string name, .slice (some ⟨b2, off2, none⟩) 2 cap] 24)).cell? ⟨w.heap.size, 2, none⟩ = some (.slice (some ⟨b2, off2, none⟩) 2 cap) := (cell_of3 (heap_alloc_new w _)).2.2
    rw [← HBX.out.cell (p := ⟨b2, off2, none⟩) hbl] at c0
    rw [← HBX.out.cell (p := ⟨b2, off2 + 1, none⟩) hbl] at c1
    rw [← HBX.out.cell (p := ⟨b2, off2 + 2, none⟩) hbl] at c2
    rw [← HBX.out.cell (p := ⟨b2, off2 + 3, none⟩) hbl] at d0
    rw [← HBX.out.cell (p := ⟨b2, off2 + 3 + 1, none⟩) hbl] at d1
    rw [← HBX.out.cell (p := ⟨b2, off2 + 3 + 2, none⟩) hbl] at d2
    have HF := hidIt (hf.go HBX.out)
    have HF2 := hidIt (hf2.go HBX.out)
    have K0 := fun y => Ext.cell c0 y
    have K1 := fun y => Ext.cell c1 y
    have K2 := fun y => Ext.cell c2 y
    have L0 := fun y => Ext.cell d0 y
    have L1 := fun y => Ext.cell d1 y
    have L2 := fun y => Ext.cell d2 y
    have M2 := fun y => Ext.cell k2 y
    clear hf hf2 h4 h5 h7 c0 c1 c2 d0 d1 d2 k2 e2
    go_enter Tryz.func99, Tryz.ntmps99
    go_wp2_with fail
    generalize (w.alloc (.cells #[.int .i64 7, .string name, .slice (some ⟨b2, off2, none⟩) 2 cap] 24)) = W at *
    haveI := Ext.nonempty W
    refine wp_region_in (Ext W) (by kernel_rfl) (by kernel_rfl) (Ext.start W) ?_
    repeat (go_big_quiet_step (first
      | (with_reducible (refine Ext.call (part_any t ht.out hts _ 3 (by omega) (by omega) _ (FormAt.go HF.out (In.h _)))))
      | (with_reducible (refine Ext.call (part_any u hu.out hus _ 2 (by omega) (by omega) _ (FormAt.go HF2.out (In.h _)))))))
    refine wpQuiet_nil ?_
    rintro w5 ⟨⟨_, h5⟩, rfl⟩
    have HB5 : Hid (Below w.heap.size w w5) := HBX.out.trans (Below.mono h5 HBX.out.size)
    clear h5 K0 K1 K2 L0 L1 L2 M2
    go_wp2_with fail
    go_ret
    exact ⟨ret_str' HE.out.symm, HB5.out⟩
  · have HE : Hid (textB (.node 8 name ts) = joinB ⟨#[32, 60, 45, 62, 32]⟩ (textsB 2 ts)) := by show _ = _; simp [textB]
    clear h4 h5 h7
    go_enter Tryz.func99, Tryz.ntmps99
    go_wp2_with fail
    refine (joined_any ⟨#[32, 60, 45, 62, 32]⟩ (by decide) 2 (by omega) (by omega) ts IHH.out HSZH.out (by omega) a cap _ (HFS.out.go ((Below.refl _ _).alloc (Nat.le_refl _) _))).mono ?_
    rintro e w' ⟨rfl, hb⟩
    have HB := hidIt (below_box hb)
    clear hb
    go_wp2_with fail
    go_ret
    exact ⟨ret_str' HE.out.symm, HB.out⟩
end Go.Proofs.YtilkpjcbmllgmaaGreatDoor

namespace Go.Proofs.YtilkpjcbmllgmaaGreatDoor
set_option linter.unusedVariables false
set_option linter.unusedSimpArgs false
open Go.RowKit

/-- The name of one letter. -/
def letter (m : Nat) : ByteArray := ⟨#[UInt8.ofNat (97 + m)]⟩

/-- A node as the builder of package keep makes it, over n atoms. -/
def nodeG (n : Nat) (t : Tree) : Bool := kindB t && nameB t && decide (t.args.length ≤ 3) && (t.op != 3 || (List.range n).any fun m => t.name.data.toList == (letter m).data.toList)

theorem all_imp {p q : Tree → Bool} (h : ∀ t, p t = true → q t = true) : ∀ t : Tree, t.all p = true → t.all q = true := by
  refine Tree.ind fun op name ts ih ha => ?_
  obtain ⟨h1, h2⟩ := all_self ha
  have h3 : allL q ts = true := by
    have key : ∀ l : List Tree, (∀ t ∈ l, t.all q = true) → allL q l = true := by
      intro l
      induction l with
      | nil => exact fun _ => rfl
      | cons t l ih2 => intro hl; simp only [allL, hl t (by simp), ih2 fun t ht => hl t (by simp [ht]), Bool.and_self]
    exact key ts fun t ht => ih t ht (allL_mem h2 t ht)
  simp only [Tree.all, h _ h1, h3, Bool.and_self]

theorem nodeG_kind {n : Nat} {t : Tree} (h : nodeG n t = true) : kindB t = true := by simp only [nodeG, Bool.and_eq_true] at h; exact h.1.1.1
theorem nodeG_name {n : Nat} {t : Tree} (h : nodeG n t = true) : nameB t = true := by simp only [nodeG, Bool.and_eq_true] at h; exact h.1.1.2
theorem nodeG_args {n : Nat} {t : Tree} (h : nodeG n t = true) : t.args.length ≤ 3 := by simp only [nodeG, Bool.and_eq_true, decide_eq_true_eq] at h; exact h.1.2
theorem nodeG_atom {n : Nat} {t : Tree} (h : nodeG n t = true) (ho : t.op = 3) : ∃ m, m < n ∧ t.name = letter m := by
  simp only [nodeG, Bool.and_eq_true, Bool.or_eq_true, bne_iff_ne, ne_eq, List.any_eq_true, List.mem_range] at h
  rcases h.2 with h | ⟨m, hm, he⟩
  · exact absurd ho h
  · exact ⟨m, hm, bytes_inj (eq_of_beq he)⟩

/-- How many nodes a formula of a depth has at most. -/
def maxNodes : Nat → Nat
  | 0 => 1
  | d + 1 => 1 + 3 * maxNodes d
theorem maxNodes_le {a b : Nat} (h : a ≤ b) : maxNodes a ≤ maxNodes b := by
  induction b with
  | zero => obtain rfl : a = 0 := by omega
            exact Nat.le_refl _
  | succ b ih =>
    by_cases e : a = b + 1
    · subst e; exact Nat.le_refl _
    · have := ih (by omega)
      simp only [maxNodes]
      omega

theorem nodesL_bound : ∀ (ts : List Tree) (d : Nat), (∀ t ∈ ts, t.nodes ≤ d) → nodesL ts ≤ ts.length * d
  | [], d, _ => by simp [nodesL]
  | t :: ts, d, h => by
    have h1 := h t (by simp)
    have h2 := nodesL_bound ts d fun t ht => h t (by simp [ht])
    simp only [nodesL, List.length_cons, Nat.add_mul]
    omega

theorem depthL_mem : ∀ {ts : List Tree} {t : Tree}, t ∈ ts → 1 + t.depth ≤ depthL ts
  | s :: ts, t, h => by
    simp only [depthL]
    rcases List.mem_cons.1 h with rfl | h
    · omega
    · have := depthL_mem h
      omega

theorem gen_nodes {n : Nat} : ∀ (t : Tree) (d : Nat), t.all (nodeG n) = true → t.depth ≤ d → t.nodes ≤ maxNodes d := by
  refine Tree.ind fun op name ts ih d ha hd => ?_
  obtain ⟨h1, h2⟩ := all_self ha
  have h3 : ts.length ≤ 3 := nodeG_args h1
  simp only [Tree.depth] at hd
  simp only [Tree.nodes]
  cases d with
  | zero =>
    cases ts with
    | nil => simp [nodesL, maxNodes]
    | cons t ts => simp only [depthL] at hd; omega
  | succ d =>
    have h4 := nodesL_bound ts (maxNodes d) fun t ht => ih t ht d (allL_mem h2 t ht) (by have := depthL_mem ht; omega)
    have h5 : ts.length * maxNodes d ≤ 3 * maxNodes d := Nat.mul_le_mul_right _ h3
    simp only [maxNodes]
    omega

theorem letter_name (m : Nat) (h : m < 26) : vn (letter m) = true := by
  have : ∀ m, m < 26 → vn (letter m) = true := by decide
  exact this m h
theorem letter_size (m : Nat) : (letter m).size = 1 := rfl
theorem letter_inj {a b : Nat} (ha : a < 26) (hb : b < 26) (h : letter a = letter b) : a = b := by
  have h1 : UInt8.ofNat (97 + a) = UInt8.ofNat (97 + b) := by
    unfold letter at h
    simpa using h
  have h2 := congrArg UInt8.toNat h1
  simp only [UInt8.toNat_ofNat'] at h2
  omega
end Go.Proofs.YtilkpjcbmllgmaaGreatDoor

namespace Go.Proofs.YtilkpjcbmllgmaaGreatDoor
set_option linter.unusedVariables false
set_option linter.unusedSimpArgs false
open Go.RowKit

/-- The three cells of a formula. -/
structure Hd where
  op : Int
  name : ByteArray
  a : Option Addr
  n : Nat
  c : Nat
def Hd.cells (h : Hd) : List Value := [.int .i64 h.op, .string h.name, .slice h.a h.n h.c]
def Hd.val (h : Hd) : Value := .agg #[.int .i64 h.op, .string h.name, .slice h.a h.n h.c]
def flatF : List Hd → List Value
  | [] => []
  | h :: l => h.cells ++ flatF l

theorem flatF_append : ∀ l m : List Hd, flatF (l ++ m) = flatF l ++ flatF m
  | [], m => rfl
  | h :: l, m => by simp only [List.cons_append, flatF, flatF_append l m, List.append_assoc]
theorem flatF_len : ∀ l : List Hd, (flatF l).length = l.length * 3
  | [] => rfl
  | h :: l => by simp only [flatF, List.length_append, flatF_len l, List.length_cons, Hd.cells, List.length_nil]; omega
theorem flatF_get : ∀ (l : List Hd) (i j : Nat) (hi : i < l.length), j < 3 → (flatF l)[i * 3 + j]? = (l[i]).cells[j]?
  | h :: l, 0, j, _, hj => by
    show (h.cells ++ flatF l)[0 * 3 + j]? = h.cells[j]?
    rw [List.getElem?_append_left (by simp [Hd.cells]; omega)]
    simp
  | h :: l, i + 1, j, hi, hj => by
    show (h.cells ++ flatF l)[(i + 1) * 3 + j]? = (l[i]'(by simpa using hi)).cells[j]?
    rw [List.getElem?_append_right (by simp [Hd.cells]; omega), ← flatF_get l i j (by simpa using hi) hj]
    congr 1
    simp [Hd.cells]
    omega
theorem flatF_one (l : List Hd) : ∀ u ∈ flatF l, u.oneCell' = true := by
  induction l with
  | nil => intro u hu; cases hu
  | cons h l ih =>
    intro u hu
    rcases List.mem_append.1 hu with hu | hu
    · simp only [Hd.cells, List.mem_cons, List.not_mem_nil, or_false] at hu
      rcases hu with rfl | rfl | rfl <;> rfl
    · exact ih u hu

/-- The header of a formula's value. -/
def Tree.hd (t : Tree) (a : Option Addr) (c : Nat) : Hd := ⟨t.op, t.name, a, t.args.length, c⟩

theorem FormIn.hd {w : World} {S : Nat → Prop} {v : Value} {t : Tree} (h : FormIn w S v t) : ∃ a c, v = (t.hd a c).val := by
  obtain ⟨a, cap, b, off, rfl, -⟩ := h.form
  exact ⟨a, cap, rfl⟩

/-- A row of formulas makes the arguments of one. -/
theorem FormIn.mk {w : World} {S : Nat → Prop} {op : Int} {name : ByteArray} {a : Option Addr} {n cap : Nat} {ts : List Tree} (h : FormsIn w S a ts) (hn : n = ts.length) (hop : I64 op) (hname : name.size ≤ maxLen) (hlen : ts.length ≤ cap) (hcap : cap ≤ maxLen) :
    FormIn w S (.agg #[.int .i64 op, .string name, .slice a n cap]) (.node op name ts) := by
  subst hn
  obtain ⟨b, off, ha, hc⟩ := h
  have hc' : ∀ i, ∃ v : Value, ∀ h : i < ts.length, w.cell? ⟨b, off + i * 3, none⟩ = some (.int .i64 ts[i].op) ∧ w.cell? ⟨b, off + i * 3 + 1, none⟩ = some (.string ts[i].name) ∧ w.cell? ⟨b, off + i * 3 + 2, none⟩ = some v ∧ FormIn w S (.agg #[.int .i64 ts[i].op, .string ts[i].name, v]) ts[i] := by
    intro i
    by_cases h : i < ts.length
    · obtain ⟨a', c', h0, h1, h2, h3⟩ := hc i h
      exact ⟨_, fun _ => ⟨h0, h1, h2, h3⟩⟩
    · exact ⟨.nilFunc, fun h' => absurd h' h⟩
  refine .node op name a cap ts b off (fun i => if h : i < ts.length then ts[i].op else 0) (fun i => if h : i < ts.length then ts[i].name else ⟨#[]⟩) (fun i => Classical.choose (hc' i)) hop hname hlen hcap ha (fun i hi => ?_) (fun i hi => ?_)
  · obtain ⟨h0, h1, h2, h3⟩ := Classical.choose_spec (hc' i) hi
    rw [dif_pos hi, dif_pos hi]
    exact ⟨h0, h1, h2⟩
  · obtain ⟨h0, h1, h2, h3⟩ := Classical.choose_spec (hc' i) hi
    rw [dif_pos hi, dif_pos hi]
    exact h3

theorem FormsIn.nil {w : World} {S : Nat → Prop} (a : Option Addr) : FormsIn w S a [] := ⟨0, 0, fun h => by simp at h, fun i h => by simp at h⟩

/-- A row of cells that are headers. -/
theorem FormsIn.of_cells {w : World} {S : Nat → Prop} {nb off : Nat} (hs : List (Option Addr × Nat)) (ts : List Tree) (hlen : hs.length = ts.length) (hne : S nb)
    (hcell : ∀ j u, (flatF (List.zipWith (fun t x => t.hd x.1 x.2) ts hs))[j]? = some u → w.cell? ⟨nb, off + j, none⟩ = some u)
    (hf : ∀ i (h : i < ts.length) (h' : i < hs.length), FormIn w S (ts[i].hd hs[i].1 hs[i].2).val ts[i]) : FormsIn w S (some ⟨nb, off, none⟩) ts := by
  refine ⟨nb, off, fun _ => ⟨rfl, hne⟩, fun i hi => ?_⟩
  have hi' : i < hs.length := by omega
  have hz : i < (List.zipWith (fun t (x : Option Addr × Nat) => t.hd x.1 x.2) ts hs).length := by rw [List.length_zipWith]; omega
  have g : ∀ j, j < 3 → (flatF (List.zipWith (fun t x => t.hd x.1 x.2) ts hs))[i * 3 + j]? = (ts[i].hd hs[i].1 hs[i].2).cells[j]? := fun j hj => by
    rw [flatF_get _ i j hz hj, List.getElem_zipWith]
  have g0 := hcell _ _ (g 0 (by omega))
  have g1 := hcell _ _ (g 1 (by omega))
  have g2 := hcell _ _ (g 2 (by omega))
  exact ⟨_, _, g0, g1, g2, hf i hi hi'⟩

theorem FormsIn.one {w : World} {S : Nat → Prop} {nb : Nat} {o : Int} {s : ByteArray} {a : Option Addr} {n c : Nat} {ty : TypeId} {t : Tree} (hk : w.heap[nb]? = some (.cells #[.int .i64 o, .string s, .slice a n c] ty (0, 0))) (hS : S nb) (hf : FormIn w S (.agg #[.int .i64 o, .string s, .slice a n c]) t) : FormsIn w S (some ⟨nb, 0, none⟩) [t] := by
  obtain ⟨rfl, rfl, rfl⟩ := hf.shape
  obtain ⟨c0, c1, c2⟩ := cell_of3 hk
  refine ⟨nb, 0, fun _ => ⟨rfl, hS⟩, fun i hi => ?_⟩
  obtain rfl : i = 0 := by simp at hi; exact hi
  exact ⟨a, c, c0, c1, c2, hf⟩
theorem FormsIn.two {w : World} {S : Nat → Prop} {nb : Nat} {o o' : Int} {s s' : ByteArray} {a a' : Option Addr} {n c n' c' : Nat} {ty : TypeId} {t u : Tree} (hk : w.heap[nb]? = some (.cells #[.int .i64 o, .string s, .slice a n c, .int .i64 o', .string s', .slice a' n' c'] ty (0, 0))) (hS : S nb)
    (hf : FormIn w S (.agg #[.int .i64 o, .string s, .slice a n c]) t) (hg : FormIn w S (.agg #[.int .i64 o', .string s', .slice a' n' c']) u) : FormsIn w S (some ⟨nb, 0, none⟩) [t, u] := by
  obtain ⟨rfl, rfl, rfl⟩ := hf.shape
  obtain ⟨rfl, rfl, rfl⟩ := hg.shape
  refine ⟨nb, 0, fun _ => ⟨rfl, hS⟩, fun i hi => ?_⟩
  have h2 : i = 0 ∨ i = 1 := by simp at hi; omega
  rcases h2 with rfl | rfl
  · exact ⟨a, c, by simp [World.cell?, hk], by simp [World.cell?, hk], by simp [World.cell?, hk], hf⟩
  · exact ⟨a', c', by simp [World.cell?, hk], by simp [World.cell?, hk], by simp [World.cell?, hk], hg⟩
end Go.Proofs.YtilkpjcbmllgmaaGreatDoor

namespace Go.Proofs.YtilkpjcbmllgmaaGreatDoor
set_option linter.unusedVariables false
set_option linter.unusedSimpArgs false
open Go.RowKit

theorem slice_inj {x y : Option Addr} {n m c d : Nat} (h : Value.slice x n c = .slice y m d) : x = y := by injection h

/-- The block of what append hands back: the old one, or a new one. -/
theorem append_block {P : Program} {w : World} (base : Nat) (t ty e : TypeId) (i : TypeInfo) (z : Value) (ht : P.underlying t = some (.slice e)) (hi : P.info? e = some i) (hz : i.zero = some z)
    (v : Value) (n : Nat) (xs : List Value) (hown : w.ownsRow base e i.size v n xs) (a : Addr) (m c : Nat) (news : List Value) (hl : news.length = m * i.size) (hnews : ∀ j u, news[j]? = some u → w.cell? (a.add j) = some u) (h1 : ∀ u ∈ news, u.oneCell' = true)
    (hm : 0 < m) (hsmall : n + m ≤ 1000000000) (hbytes : (n + m) * i.bytes ≤ 140737488355328) {v' : Value} {w' : World} (hr : (Builtin.append_ #[t, t] ty #[v, .slice (some a) m c]).run P w = .ok v' w') :
    v'.ownBlock = v.ownBlock ∨ v'.ownBlock = some w.heap.size := by
  rcases hown.2 with ⟨rfl, rfl⟩ | ⟨g, cap, cur, rfl, -, hg, hnc, -, hcs, -⟩
  · have hx := run_append_nil (P := P) w t ty e i z ht hi hz a m c news hl hnews hm (by omega) (by have := hbytes; simp only [Nat.zero_add] at this; omega)
    rw [hx] at hr
    injection hr with hr
    rw [← hr]
    exact .inr rfl
  · by_cases hroom : n + m ≤ cap
    · have hx := run_append_room (P := P) w t ty e i ht hi g n cap cur hg a m c news hl hnews h1 hroom (by rw [hl, hcs, ← Nat.add_mul]; exact Nat.mul_le_mul_right _ hroom)
      rw [hx] at hr
      injection hr with hr
      rw [← hr]
      exact .inl rfl
    · have hx := run_append_grow (P := P) w t ty e i z ht hi hz ⟨g, 0, none⟩ n cap xs hown.1 (hown.cells (g := g) rfl) a m c news hl hnews (by omega) (by omega) (growslice_fits (by omega) hbytes)
      rw [hx] at hr
      injection hr with hr
      rw [← hr]
      exact .inr rfl

theorem infoF : (Tryz.prog.info? 24).map (fun i => (i.zero, i.size, i.bytes)) = some (some (.agg #[.int .i64 0, .string ⟨#[]⟩, .slice none 0 0]), 3, 48) := by kernel_rfl

abbrev hds (ts : List Tree) (hs : List (Option Addr × Nat)) : List Hd := List.zipWith (fun t x => t.hd x.1 x.2) ts hs

/-- The value is a list of formulas that the call owns, from block B on; none of the formulas lies in the list's own block. -/
def OwnF (w : World) (B : Nat) (v : Value) (ts : List Tree) : Prop :=
  ∃ hs : List (Option Addr × Nat), hs.length = ts.length ∧ w.ownsRow B 24 3 v ts.length (flatF (hds ts hs)) ∧
    ∀ i (h : i < ts.length) (h' : i < hs.length), FormIn w (fun k => B ≤ k ∧ v.ownBlock ≠ some k) (ts[i].hd hs[i].1 hs[i].2).val ts[i]

section
variable {w w' : World} {B : Nat} {v : Value} {ts : List Tree}
theorem OwnF.block (h : OwnF w B v ts) : ∀ g, v.ownBlock = some g → B ≤ g ∧ g < w.heap.size := by
  obtain ⟨hs, -, ho, -⟩ := h
  exact World.ownsRow.lt ho
theorem OwnF.nil (w : World) (B : Nat) : OwnF w B (.slice none 0 0) [] := ⟨[], rfl, World.ownsRow_nil w B _ _, fun i h => by simp at h⟩
theorem OwnF.kept {row : Option Nat} (h : OwnF w B v ts) (hg : w.grownBy w' row) (hr : ∀ g, row = some g → g < B) : OwnF w' B v ts := by
  obtain ⟨hs, h1, ho, hf⟩ := h
  refine ⟨hs, h1, World.ownsRow.kept ho hg ?_, fun i hi hi' => (hf i hi hi').kept fun k hk hl => hg.block k hl (fun e => by have := hr k e.symm; omega)⟩
  cases hv : v.ownBlock with
  | none => exact .inl rfl
  | some g =>
    refine .inr (fun e => ?_)
    have h2 := (World.ownsRow.lt ho g hv).1
    have h3 := hr g e.symm
    omega
theorem OwnF.go (h : OwnF w B v ts) (hb : Below w.heap.size w w') : OwnF w' B v ts := h.kept (only_of_below hb none) (fun g e => by cases e)
theorem OwnF.alloc (h : OwnF w B v ts) (o : Obj) : OwnF (w.alloc o) B v ts := h.go ((Below.refl _ _).alloc (Nat.le_refl _) o)

theorem OwnF.form (h : OwnF w B v ts) : ∃ (a : Option Addr) (c : Nat), v = .slice a ts.length c ∧ ts.length ≤ c ∧ c ≤ maxLen ∧ FormsIn w (fun k => B ≤ k) a ts := by
  obtain ⟨hs, h1, ho, hf⟩ := h
  rcases ho.2 with ⟨rfl, h0⟩ | ⟨g, cap, cur, rfl, hB, hg, hnc, hcm, hcs, htake⟩
  · have : ts = [] := List.eq_nil_of_length_eq_zero h0
    subst this
    exact ⟨none, 0, rfl, Nat.le_refl _, Nat.zero_le _, FormsIn.nil none⟩
  · refine ⟨_, cap, rfl, hnc, hcm, FormsIn.of_cells hs ts h1 hB (fun j u hj => ?_) (fun i hi hi' => (hf i hi hi').mono fun k _ hk => hk.1)⟩
    have := World.ownsRow.cells ho (g := g) rfl j u hj
    have e : (⟨g, 0, none⟩ : Addr).add j = ⟨g, 0 + j, none⟩ := by unfold Addr.add; split <;> simp_all
    rwa [e] at this
end

theorem zip_snoc (ts : List Tree) (hs : List (Option Addr × Nat)) (t : Tree) (x : Option Addr × Nat) (h : hs.length = ts.length) : hds (ts ++ [t]) (hs ++ [x]) = hds ts hs ++ [t.hd x.1 x.2] := by
  unfold hds
  rw [List.zipWith_append (by omega)]
  rfl

/-- append of one formula, which lies in a row of its own, to a list that the call owns. -/
theorem wpList_append_form {w : World} {ops : Array Oper} {rest : List Oper} {o : Oper} {a : Act} {Q : Exit → Act → World → Prop} (hgd : o.guard = none) (s x : Operand)
    (ho : o.op = .call { callee := .builtin .append, args := #[s, x], argTypes := #[22, 22] }) (B : Nat) (v : Value) (ts : List Tree) (hs : a.eval s = v) (hown : OwnF w B v ts)
    (m c1 : Nat) (hx : a.eval x = .slice (some ⟨m, 0, none⟩) 1 c1) {op : Int} {nm : ByteArray} {ad : Option Addr} {n c : Nat} {ty : TypeId} (hm : w.heap[m]? = some (.cells #[.int .i64 op, .string nm, .slice ad n c] ty (0, 0))) (t : Tree)
    (hf : FormIn w (fun k => B ≤ k ∧ v.ownBlock ≠ some k) (.agg #[.int .i64 op, .string nm, .slice ad n c]) t) (hlen : ts.length ≤ 1000000) (hB : B ≤ w.heap.size)
    (h : ∀ v' w', OwnF w' B v' (ts ++ [t]) → w.grownBy w' v.ownBlock → (v'.ownBlock = v.ownBlock ∨ v'.ownBlock = some w.heap.size) → wpList Tryz.prog ops Q rest (a.put o.dst v') w') : wpList Tryz.prog ops Q (o :: rest) a w := by
  obtain ⟨i0, hi, hz0, hz1, hz2⟩ := info_parts infoF
  obtain ⟨rfl, rfl, rfl⟩ := hf.shape
  obtain ⟨hs', h1, hrow, hfs⟩ := hown
  have hnews : ∀ j u, ((t.hd ad c).cells)[j]? = some u → w.cell? ((⟨m, 0, none⟩ : Addr).add j) = some u := by
    obtain ⟨p0, p1, p2⟩ := cell_of3 hm
    intro j u hj
    have e : (⟨m, 0, none⟩ : Addr).add j = ⟨m, j, none⟩ := by unfold Addr.add; split <;> simp_all
    rw [e]
    match j with
    | 0 => simp only [Hd.cells, Tree.hd, List.getElem?_cons_zero, Option.some.injEq] at hj; rw [← hj]; exact p0
    | 1 => simp only [Hd.cells, Tree.hd, List.getElem?_cons_zero, List.getElem?_cons_succ, Option.some.injEq] at hj; rw [← hj]; exact p1
    | 2 => simp only [Hd.cells, Tree.hd, List.getElem?_cons_zero, List.getElem?_cons_succ, Option.some.injEq] at hj; rw [← hj]; exact p2
    | j + 3 => simp [Hd.cells] at hj
  have hone : ∀ u ∈ (t.hd ad c).cells, u.oneCell' = true := fun u hu => flatF_one [t.hd ad c] u (by simpa [flatF] using hu)
  have hl : ((t.hd ad c).cells).length = 1 * i0.size := by rw [hz1]; rfl
  refine wpList_plain hgd fun K hK => ?_
  rw [← hz1] at hrow
  obtain ⟨v', w', hr, h2, h3, h4⟩ := run_append_own (P := Tryz.prog) w B 22 o.type 24 i0 _ i0.size 48 Tryz.underlying22 hi hz0 rfl hz2 (by rw [hz1]; rfl) (by rw [hz1]; decide) v ts.length _ hrow ⟨m, 0, none⟩ 1 c1 _ hl hnews hone (by unfold maxLen; omega) (by omega) hB
  have hbl := append_block (P := Tryz.prog) (w := w) B 22 o.type 24 i0 _ Tryz.underlying22 hi hz0 v ts.length _ hrow ⟨m, 0, none⟩ 1 c1 _ hl hnews hone (by omega) (by omega) (by rw [hz2]; omega) hr
  have hwp : OwnF w' B v' (ts ++ [t]) := by
    refine ⟨hs' ++ [(ad, c)], by simp [h1], ?_, fun i hi1 hi2 => ?_⟩
    · rw [zip_snoc ts hs' t (ad, c) h1, flatF_append, List.length_append]
      rw [hz1] at h2
      have e : flatF [t.hd ad c] = (t.hd ad c).cells := by simp [flatF]
      rw [e]
      exact h2
    · have hgo : ∀ {u : Value} {y : Tree}, FormIn w (fun k => B ≤ k ∧ v.ownBlock ≠ some k) u y → FormIn w' (fun k => B ≤ k ∧ v'.ownBlock ≠ some k) u y := fun hy =>
        (hy.mono (S' := fun k => (B ≤ k ∧ v.ownBlock ≠ some k) ∧ v'.ownBlock ≠ some k) (fun k hk hS => ⟨hS, fun e => by
          rcases hbl with hb | hb
          · exact hS.2 (by rw [← hb, e])
          · rw [hb] at e; injection e with e; omega⟩)).kept (fun k hk hl => h3.block k hl (fun e => hk.1.2 e.symm)) |>.mono fun k _ hk => ⟨hk.1.1, hk.2⟩
      by_cases hi3 : i < ts.length
      · have := hgo (hfs i hi3 (by omega))
        simp only [List.getElem_append_left hi3, List.getElem_append_left (show i < hs'.length by omega)]
        exact this
      · have hi4 : i = ts.length := by simp at hi1; omega
        subst hi4
        have := hgo hf
        simp only [List.getElem_append_right (Nat.le_refl _), List.getElem_append_right (show hs'.length ≤ ts.length by omega), h1, Nat.sub_self, List.getElem_cons_zero]
        exact this
  unfold Oper.wp execOp
  simp only [ho, resolve, invoke, builtin, Sem.run_bind, Sem.run_pure, Result.andThen_ok, List.map_toArray, List.map_cons, List.map_nil, hs, hx, hr]
  exact hK _ _ (h v' w' hwp h3 hbl)

/-- append of three cells, whatever they are: some slice. -/
theorem wpList_append_junk {w : World} {ops : Array Oper} {rest : List Oper} {o : Oper} {a : Act} {Q : Exit → Act → World → Prop} (hgd : o.guard = none) (s x : Operand)
    (ho : o.op = .call { callee := .builtin .append, args := #[s, x], argTypes := #[22, 22] }) (B : Nat) (v : Value) (ts : List Tree) (hs : a.eval s = v) (hown : OwnF w B v ts)
    (m c1 : Nat) (hx : a.eval x = .slice (some ⟨m, 0, none⟩) 1 c1) {op : Int} {nm : ByteArray} {ad : Option Addr} {n c : Nat} {ty : TypeId} (hm : w.heap[m]? = some (.cells #[.int .i64 op, .string nm, .slice ad n c] ty (0, 0)))
    (hlen : ts.length ≤ 1000000) (hB : B ≤ w.heap.size)
    (h : ∀ (a' : Option Addr) (n' c' : Nat) (w' : World), w.grownBy w' v.ownBlock → wpList Tryz.prog ops Q rest (a.put o.dst (.slice a' n' c')) w') : wpList Tryz.prog ops Q (o :: rest) a w := by
  obtain ⟨i0, hi, hz0, hz1, hz2⟩ := info_parts infoF
  obtain ⟨hs', h1, hrow, hfs⟩ := hown
  have hnews : ∀ j u, (([.int .i64 op, .string nm, .slice ad n c] : List Value))[j]? = some u → w.cell? ((⟨m, 0, none⟩ : Addr).add j) = some u := by
    obtain ⟨p0, p1, p2⟩ := cell_of3 hm
    intro j u hj
    have e : (⟨m, 0, none⟩ : Addr).add j = ⟨m, j, none⟩ := by unfold Addr.add; split <;> simp_all
    rw [e]
    match j with
    | 0 => simp only [List.getElem?_cons_zero, Option.some.injEq] at hj; rw [← hj]; exact p0
    | 1 => simp only [List.getElem?_cons_zero, List.getElem?_cons_succ, Option.some.injEq] at hj; rw [← hj]; exact p1
    | 2 => simp only [List.getElem?_cons_zero, List.getElem?_cons_succ, Option.some.injEq] at hj; rw [← hj]; exact p2
    | j + 3 => simp at hj
  refine wpList_append_own w hgd s x 22 ho B 24 i0 _ 3 48 Tryz.underlying22 hi hz0 hz1 hz2 rfl (by decide) v ts.length _ hs hrow ⟨m, 0, none⟩ 1 c1 [.int .i64 op, .string nm, .slice ad n c] hx rfl hnews (fun u hu => ?_) (by unfold maxLen; omega) (by omega) hB (fun v' w' h2 h3 _ => ?_)
  · simp only [List.mem_cons, List.not_mem_nil, or_false] at hu
    rcases hu with rfl | rfl | rfl <;> rfl
  · rcases h2.2 with ⟨rfl, h0⟩ | ⟨g, cap, cur, rfl, -⟩
    · exact h none 0 0 w' h3
    · exact h _ _ _ w' h3

theorem OwnF.one {w : World} {B nb : Nat} {op : Int} {nm : ByteArray} {a : Option Addr} {n c : Nat} {t : Tree} (hk : w.heap[nb]? = some (.cells #[.int .i64 op, .string nm, .slice a n c] 24 (0, 0))) (hB : B ≤ nb)
    (hf : FormIn w (fun k => B ≤ k ∧ k ≠ nb) (.agg #[.int .i64 op, .string nm, .slice a n c]) t) : OwnF w B (.slice (some ⟨nb, 0, none⟩) 1 1) [t] := by
  obtain ⟨rfl, rfl, rfl⟩ := hf.shape
  refine ⟨[(a, c)], rfl, ⟨rfl, .inr ⟨nb, 1, _, rfl, hB, hk, Nat.le_refl _, by unfold maxLen; simp, rfl, rfl⟩⟩, fun i hi hi' => ?_⟩
  obtain rfl : i = 0 := by simp at hi; exact hi
  exact hf.mono fun k _ hk => ⟨hk.1, fun e => by
    have e' : nb = k := Option.some.inj e
    exact hk.2 e'.symm⟩
end Go.Proofs.YtilkpjcbmllgmaaGreatDoor

namespace Go.Proofs.YtilkpjcbmllgmaaGreatDoor
set_option linter.unusedVariables false
set_option linter.unusedSimpArgs false
open Go.RowKit

theorem run_append_form {w : World} (ty : TypeId) (B : Nat) (v : Value) (ts : List Tree) (hown : OwnF w B v ts)
    (m c1 : Nat) {op : Int} {nm : ByteArray} {ad : Option Addr} {n c : Nat} {tz : TypeId} (hm : w.heap[m]? = some (.cells #[.int .i64 op, .string nm, .slice ad n c] tz (0, 0))) (t : Tree)
    (hf : FormIn w (fun k => B ≤ k ∧ v.ownBlock ≠ some k) (.agg #[.int .i64 op, .string nm, .slice ad n c]) t) (hlen : ts.length ≤ 1000000) (hB : B ≤ w.heap.size) :
    ∃ a' c' w', (Builtin.append_ #[22, 22] ty #[v, .slice (some ⟨m, 0, none⟩) 1 c1]).run Tryz.prog w = .ok (.slice a' (ts.length + 1) c') w' ∧ OwnF w' B (.slice a' (ts.length + 1) c') (ts ++ [t]) ∧ w.grownBy w' v.ownBlock := by
  obtain ⟨i0, hi, hz0, hz1, hz2⟩ := info_parts infoF
  obtain ⟨rfl, rfl, rfl⟩ := hf.shape
  obtain ⟨hs', h1, hrow, hfs⟩ := hown
  have hnews : ∀ j u, ((t.hd ad c).cells)[j]? = some u → w.cell? ((⟨m, 0, none⟩ : Addr).add j) = some u := by
    obtain ⟨p0, p1, p2⟩ := cell_of3 hm
    intro j u hj
    have e : (⟨m, 0, none⟩ : Addr).add j = ⟨m, j, none⟩ := by unfold Addr.add; split <;> simp_all
    rw [e]
    match j with
    | 0 => simp only [Hd.cells, Tree.hd, List.getElem?_cons_zero, Option.some.injEq] at hj; rw [← hj]; exact p0
    | 1 => simp only [Hd.cells, Tree.hd, List.getElem?_cons_zero, List.getElem?_cons_succ, Option.some.injEq] at hj; rw [← hj]; exact p1
    | 2 => simp only [Hd.cells, Tree.hd, List.getElem?_cons_zero, List.getElem?_cons_succ, Option.some.injEq] at hj; rw [← hj]; exact p2
    | j + 3 => simp [Hd.cells] at hj
  have hone : ∀ u ∈ (t.hd ad c).cells, u.oneCell' = true := fun u hu => flatF_one [t.hd ad c] u (by simpa [flatF] using hu)
  have hl : ((t.hd ad c).cells).length = 1 * i0.size := by rw [hz1]; rfl
  rw [← hz1] at hrow
  obtain ⟨v', w', hr, h2, h3, h4⟩ := run_append_own (P := Tryz.prog) w B 22 ty 24 i0 _ i0.size 48 Tryz.underlying22 hi hz0 rfl hz2 (by rw [hz1]; rfl) (by rw [hz1]; decide) v ts.length _ hrow ⟨m, 0, none⟩ 1 c1 _ hl hnews hone (by unfold maxLen; omega) (by omega) hB
  have hbl := append_block (P := Tryz.prog) (w := w) B 22 ty 24 i0 _ Tryz.underlying22 hi hz0 v ts.length _ hrow ⟨m, 0, none⟩ 1 c1 _ hl hnews hone (by omega) (by omega) (by rw [hz2]; omega) hr
  have hwp : OwnF w' B v' (ts ++ [t]) := by
    refine ⟨hs' ++ [(ad, c)], by simp [h1], ?_, fun i hi1 hi2 => ?_⟩
    · rw [zip_snoc ts hs' t (ad, c) h1, flatF_append, List.length_append]
      rw [hz1] at h2
      have e : flatF [t.hd ad c] = (t.hd ad c).cells := by simp [flatF]
      rw [e]
      exact h2
    · have hgo : ∀ {u : Value} {y : Tree}, FormIn w (fun k => B ≤ k ∧ v.ownBlock ≠ some k) u y → FormIn w' (fun k => B ≤ k ∧ v'.ownBlock ≠ some k) u y := fun hy =>
        (hy.mono (S' := fun k => (B ≤ k ∧ v.ownBlock ≠ some k) ∧ v'.ownBlock ≠ some k) (fun k hk hS => ⟨hS, fun e => by
          rcases hbl with hb | hb
          · exact hS.2 (by rw [← hb, e])
          · rw [hb] at e; injection e with e; omega⟩)).kept (fun k hk hl => h3.block k hl (fun e => hk.1.2 e.symm)) |>.mono fun k _ hk => ⟨hk.1.1, hk.2⟩
      by_cases hi3 : i < ts.length
      · have := hgo (hfs i hi3 (by omega))
        simp only [List.getElem_append_left hi3, List.getElem_append_left (show i < hs'.length by omega)]
        exact this
      · have hi4 : i = ts.length := by simp at hi1; omega
        subst hi4
        have := hgo hf
        simp only [List.getElem_append_right (Nat.le_refl _), List.getElem_append_right (show hs'.length ≤ ts.length by omega), h1, Nat.sub_self, List.getElem_cons_zero]
        exact this
  obtain ⟨a', c', rfl, -⟩ := hwp.form
  have e : (ts ++ [t]).length = ts.length + 1 := by simp
  rw [e] at hr hwp
  exact ⟨a', c', w', hr, hwp, h3⟩

/-- At a step of a region that draws its order. -/
theorem step_append_form {w : World} {ops : Array Oper} {o : Oper} {a : Act} {K : Act → World → Prop} {Q : Exit → Act → World → Prop} {E : Prop} (hgd : o.guard = none) (s x : Operand)
    (ho : o.op = .call { callee := .builtin .append, args := #[s, x], argTypes := #[22, 22] }) (B : Nat) (v : Value) (ts : List Tree) (hs : a.eval s = v) (hown : OwnF w B v ts)
    (m c1 : Nat) (hx : a.eval x = .slice (some ⟨m, 0, none⟩) 1 c1) {op : Int} {nm : ByteArray} {ad : Option Addr} {n c : Nat} {tz : TypeId} (hm : w.heap[m]? = some (.cells #[.int .i64 op, .string nm, .slice ad n c] tz (0, 0))) (t : Tree)
    (hf : FormIn w (fun k => B ≤ k ∧ v.ownBlock ≠ some k) (.agg #[.int .i64 op, .string nm, .slice ad n c]) t) (hlen : ts.length ≤ 1000000) (hB : B ≤ w.heap.size)
    (h : ∀ a' c' w', OwnF w' B (.slice a' (ts.length + 1) c') (ts ++ [t]) → w.grownBy w' v.ownBlock → K (a.put o.dst (.slice a' (ts.length + 1) c')) w') :
    if Region.wanted o (yielded ops a.tmps) = true then Oper.wp Tryz.prog o a w K Q else E := by
  have hw : Region.wanted o (yielded ops a.tmps) = true := by simp [Region.wanted, hgd]
  rw [if_pos hw]
  obtain ⟨a', c', w', hr, h1, h2⟩ := run_append_form (w := w) o.type B v ts hown m c1 hm t hf hlen hB
  unfold Oper.wp execOp
  simp only [ho, resolve, invoke, builtin, Sem.run_bind, Sem.run_pure, Result.andThen_ok, List.map_toArray, List.map_cons, List.map_nil, hs, hx, hr]
  exact h a' c' w' h1 h2
end Go.Proofs.YtilkpjcbmllgmaaGreatDoor

namespace Go.Proofs.YtilkpjcbmllgmaaGreatDoor
set_option linter.unusedVariables false
set_option linter.unusedSimpArgs false
open Go.RowKit

/-- Does a byte belong to a word? -/
def inWI (c : Int) : Bool := decide (97 ≤ c ∧ c ≤ 122) || (decide (65 ≤ c ∧ c ≤ 90) || (decide (48 ≤ c ∧ c ≤ 57) || decide (c = 95)))
def inW (c : UInt8) : Bool := inWI (c.toNat : Int)

def sgn : List (List UInt8) := [[60, 45, 62], [45, 62], [126], [38], [124], [40], [41]]

/-- The word with which a text begins, or nothing if it is none. -/
def wordTok (l : List UInt8) : List UInt8 :=
  let u := l.takeWhile inW
  if u = [48] ∨ u = [49] ∨ vn ⟨u.toArray⟩ = true then u else []

/-- The token with which a text begins. -/
def tok (l : List UInt8) : List UInt8 := ((sgn.find? fun p => p.isPrefixOf l).getD (wordTok l))

/-- The package's table of signs lies as it was laid. -/
structure SignsAt (w : World) : Prop where
  lt : 0 < w.heap.size
  c0 : w.cell? ⟨0, 0, none⟩ = some (.string ⟨#[60, 45, 62]⟩)
  c1 : w.cell? ⟨0, 1, none⟩ = some (.string ⟨#[45, 62]⟩)
  c2 : w.cell? ⟨0, 2, none⟩ = some (.string ⟨#[126]⟩)
  c3 : w.cell? ⟨0, 3, none⟩ = some (.string ⟨#[38]⟩)
  c4 : w.cell? ⟨0, 4, none⟩ = some (.string ⟨#[124]⟩)
  c5 : w.cell? ⟨0, 5, none⟩ = some (.string ⟨#[40]⟩)
  c6 : w.cell? ⟨0, 6, none⟩ = some (.string ⟨#[41]⟩)

theorem SignsAt.kept {w w' : World} {row : Option Nat} (h : SignsAt w) (hg : w.grownBy w' row) (hr : row ≠ some 0) : SignsAt w' :=
  ⟨Nat.lt_of_lt_of_le h.lt hg.size, hg.cell h.c0 (fun e => hr e.symm), hg.cell h.c1 (fun e => hr e.symm), hg.cell h.c2 (fun e => hr e.symm), hg.cell h.c3 (fun e => hr e.symm), hg.cell h.c4 (fun e => hr e.symm), hg.cell h.c5 (fun e => hr e.symm), hg.cell h.c6 (fun e => hr e.symm)⟩
theorem SignsAt.go {w w' : World} (h : SignsAt w) (hb : Below w.heap.size w w') : SignsAt w' := h.kept (only_of_below hb none) (by simp)

set_option maxHeartbeats 400000 in
theorem inWord_any (c : Int) (hc : 0 ≤ c) (hc' : c ≤ 255) (w : World) :
    Calls Tryz.prog 131 #[.int .u8 c] w fun e w' => e = .returned (.bool (inWI c)) ∧ w = w' := by
  go_enter Tryz.func131, Tryz.ntmps131
  go_wp2
  all_goals (go_ret; refine ⟨ret_bool ?_, rfl⟩; grind [inWI])

theorem tok_sign {l : List UInt8} {k : Nat} (hk : k < sgn.length) (h : ∀ j, j < k → (sgn.getD j []).isPrefixOf l = false) (hp : (sgn.getD k []).isPrefixOf l = true) : tok l = sgn.getD k [] := by
  have hf : sgn.find? (fun p => p.isPrefixOf l) = some (sgn.getD k []) := by
    rw [List.find?_eq_some_iff_getElem]
    refine ⟨hp, k, hk, by rw [List.getD_eq_getElem?_getD, List.getElem?_eq_getElem hk]; rfl, fun j hj => ?_⟩
    have := h j hj
    rw [List.getD_eq_getElem?_getD, List.getElem?_eq_getElem (by omega)] at this
    simpa using this
  rw [tok, hf]
  rfl
theorem tok_word {l : List UInt8} (h : ∀ j, j < 7 → (sgn.getD j []).isPrefixOf l = false) : tok l = wordTok l := by
  have hf : sgn.find? (fun p => p.isPrefixOf l) = none := by
    rw [List.find?_eq_none]
    intro p hp
    obtain ⟨j, hj, rfl⟩ := List.mem_iff_getElem.1 hp
    have := h j hj
    rw [List.getD_eq_getElem?_getD, List.getElem?_eq_getElem hj] at this
    rw [show (some sgn[j]).getD [] = sgn[j] from rfl] at this
    rw [this]
    exact Bool.false_ne_true
  rw [tok, hf]
  rfl

theorem idx_signs (k : Nat) (hk : k < 7) (w : World) : (Instr.index 133 (.agg #[.string ⟨#[60, 45, 62]⟩, .string ⟨#[45, 62]⟩, .string ⟨#[126]⟩, .string ⟨#[38]⟩, .string ⟨#[124]⟩, .string ⟨#[40]⟩, .string ⟨#[41]⟩]) (.int .i64 (k : Int))).run Tryz.prog w = .ok (.string ⟨(sgn.getD k []).toArray⟩) w := by
  have h7 : k = 0 ∨ k = 1 ∨ k = 2 ∨ k = 3 ∨ k = 4 ∨ k = 5 ∨ k = 6 := by omega
  rcases h7 with rfl | rfl | rfl | rfl | rfl | rfl | rfl <;> (refine Eq.trans ?_ rfl; kernel_rfl)

theorem extract_take (s : ByteArray) (k : Nat) : s.extract 0 k = ⟨(s.data.toList.take k).toArray⟩ := by
  obtain ⟨⟨l⟩⟩ := s
  apply ByteArray.ext
  simp [ByteArray.data_extract]

theorem mk_size (l : List UInt8) : (⟨l.toArray⟩ : ByteArray).size = l.length := by simp only [ByteArray.size, List.size_toArray]
theorem take_size (s : ByteArray) (k : Nat) (hk : k ≤ s.size) (hs : s.size ≤ 1000000) : (⟨(s.data.toList.take k).toArray⟩ : ByteArray).size ≤ maxLen := by
  rw [mk_size, List.length_take]
  unfold maxLen
  omega

theorem takeWhile_take {l : List UInt8} {p : UInt8 → Bool} {k : Nat} (h1 : ∀ c ∈ l.take k, p c = true) (h2 : ∀ c, l[k]? = some c → p c = false) : l.takeWhile p = l.take k := by
  induction l generalizing k with
  | nil => simp
  | cons a l ih =>
    cases k with
    | zero =>
      have := h2 a rfl
      simp [List.takeWhile_cons, this]
    | succ k =>
      have ha := h1 a (by simp)
      rw [List.takeWhile_cons, if_pos ha, List.take_succ_cons, ih (fun c hc => h1 c (by rw [List.take_succ_cons]; exact List.mem_cons_of_mem _ hc)) (fun c hc => h2 c (by simpa using hc))]

set_option maxRecDepth 100000 in
set_option maxHeartbeats 1000000 in
theorem firstToken_any (s : ByteArray) (hs : s.size ≤ 1000000) (w : World) (h : SignsAt w) :
    Calls Tryz.prog 112 #[.string s] w fun e w' => e = .returned (.string ⟨(tok s.data.toList).toArray⟩) ∧ w' = w := by
  obtain ⟨hlt, c0, c1, c2, c3, c4, c5, c6⟩ := h
  go_enter Tryz.func112, Tryz.ntmps112
  go_wp2_with fail
  clear c0 c1 c2 c3 c4 c5 c6
  go_loop [8] (fun i => ∃ k : Nat, k ≤ 7 ∧ i = .int .i64 k ∧ Hid (∀ j, j < k → (sgn.getD j []).isPrefixOf s.data.toList = false)) (fun i => 7 - (intOf i).toNat)
  case atStart => exact ⟨0, by omega, rfl, fun j hj => by omega⟩
  case round =>
    obtain ⟨k, hk, rfl, hno⟩ := hrel
    by_cases hlt7 : k < 7
    · have hix := idx_signs k hlt7
      have hkl : k < sgn.length := hlt7
      cases hp : (sgn.getD k []).isPrefixOf s.data.toList
      · have HP := hidIt hp
        clear hp
        generalize hsg : sgn.getD k [] = g at *
        have HG := hidIt hsg
        clear hsg
        go_wp2_with fail
        refine (Tryz.strings_HasPrefix s ⟨g.toArray⟩ w).mono ?_
        rintro e w' ⟨rfl, rfl⟩
        have HQ : Hid (Lib.hasPrefix s.data.toList (⟨g.toArray⟩ : ByteArray).data.toList = false) := HP.out
        rw [HQ.out]
        go_wp2_with fail
        go_round
        case rel => exact ⟨k + 1, by omega, by go_num, fun j hj => by
          rcases Nat.lt_succ_iff_lt_or_eq.1 hj with h | h
          · exact hno.out j h
          · rw [h, HG.out]; exact HP.out⟩
        case measure => simp [intOf]; omega
      · have HT := hidIt (tok_sign hkl hno.out hp)
        have HP := hidIt hp
        clear hp
        generalize sgn.getD k [] = g at *
        go_wp2_with fail
        refine (Tryz.strings_HasPrefix s ⟨g.toArray⟩ w).mono ?_
        rintro e w' ⟨rfl, rfl⟩
        have HQ : Hid (Lib.hasPrefix s.data.toList (⟨g.toArray⟩ : ByteArray).data.toList = true) := HP.out
        rw [HQ.out]
        go_wp2_with fail
        go_ret
        exact ⟨congrArg (fun l : List UInt8 => Ending.returned (.string ⟨l.toArray⟩)) HT.out.symm, rfl⟩
    · obtain rfl : k = 7 := by omega
      have HT := hidIt (tok_word hno.out)
      clear hno
      go_wp2_with fail
      go_loop [5] (fun i => ∃ k : Nat, k ≤ s.size ∧ i = .int .i64 k ∧ Hid (∀ c ∈ s.data.toList.take k, inW c = true)) (fun i => s.size - (intOf i).toNat)
      case atStart => exact ⟨0, by omega, rfl, by intro c hc; simp at hc⟩
      case round =>
        obtain ⟨k, hk, rfl, hall⟩ := hrel
        by_cases hc : ∃ h : k < s.size, inW s[k] = true
        · obtain ⟨hlt, hin⟩ := hc
          have hb : 0 ≤ (s[k].toNat : Int) := by omega
          have hb' : (s[k].toNat : Int) ≤ 255 := by have := s[k].toNat_lt; omega
          have HI : Hid (inWI (s[k].toNat : Int) = true) := hin
          have HS : Hid (∀ c ∈ s.data.toList.take (k + 1), inW c = true) := by
            intro c hc
            rw [List.take_succ_eq_append_getElem (by simpa using hlt)] at hc
            rcases List.mem_append.1 hc with hc | hc
            · exact hall.out c hc
            · simp only [List.mem_singleton] at hc
              subst hc
              exact hin
          clear hin
          go_wp2_with fail
          refine (inWord_any _ hb hb' w).mono ?_
          rintro e w' ⟨rfl, rfl⟩
          rw [HI.out]
          go_wp2_with fail
          go_round
          case rel => exact ⟨k + 1, by omega, by go_num, HS⟩
          case measure => simp [intOf]; omega
        · have hTW : s.data.toList.takeWhile inW = s.data.toList.take k := takeWhile_take hall.out (fun c hc2 => by
            obtain ⟨h1, h2⟩ := List.getElem?_eq_some_iff.1 hc2
            cases hi : inW c
            · rfl
            · exact absurd ⟨(by simpa using h1), (by rw [← h2] at hi; exact hi)⟩ hc)
          obtain ⟨u, hu⟩ : ∃ u, u = s.data.toList.take k := ⟨_, rfl⟩
          rw [← hu] at hTW
          have HW : Hid (tok s.data.toList = if u = [48] ∨ u = [49] ∨ vn ⟨u.toArray⟩ = true then u else []) := by
            show _ = _
            rw [HT.out]
            simp only [wordTok, hTW]
          clear hTW
          have hX : Hid (s.extract 0 k = ⟨u.toArray⟩) := by
            show _ = _
            rw [hu]
            exact extract_take s k
          have hXL : Hid ((s.extract 0 k).toList = u) := by show _ = _; rw [hX.out, Lib.toList_data]
          have HW2 : Hid ((s.extract 0 k).toList = [48] ∨ (s.extract 0 k).toList = [49] ∨ vn (s.extract 0 k) = true → tok s.data.toList = u) := fun h => by
            rw [HW.out, if_pos (by rw [← hX.out]; rw [hXL.out] at h; exact h)]
          have HW3 : Hid (¬ (s.extract 0 k).toList = [48] → ¬ (s.extract 0 k).toList = [49] → vn (s.extract 0 k) = false → tok s.data.toList = []) := fun h1 h2 h3 => by
            rw [HW.out, if_neg (by rw [← hX.out]; rw [hXL.out] at h1 h2; exact fun h => h.elim h1 fun h => h.elim h2 fun h => by rw [h3] at h; cases h)]
          have hxs : (s.extract 0 k).size ≤ maxLen := by rw [hX.out, hu]; exact take_size s k hk hs
          have HF : Hid (tok s.data.toList = u → (s.extract 0 k) = ⟨(tok s.data.toList).toArray⟩) := fun h => by rw [h]; exact hX.out
          by_cases hlt : k < s.size
          · have hb : 0 ≤ (s[k].toNat : Int) := by omega
            have hb' : (s[k].toNat : Int) ≤ 255 := by have := s[k].toNat_lt; omega
            have HI : Hid (inWI (s[k].toNat : Int) = false) := by
              show _ = _
              cases hi : inWI (s[k].toNat : Int)
              · rfl
              · exact absurd ⟨hlt, hi⟩ hc
            clear hc hu
            by_cases h48 : (s.extract 0 k).toList = [48]
            · have HE := hidIt (HF.out (HW2.out (.inl h48)))
              go_wp2_with fail
              refine (inWord_any _ hb hb' w).mono ?_
              rintro e w' ⟨rfl, rfl⟩
              rw [HI.out]
              go_wp2_with fail
              go_ret
              exact ⟨ret_str' HE.out, rfl⟩
            by_cases h49 : (s.extract 0 k).toList = [49]
            · have HE := hidIt (HF.out (HW2.out (.inr (.inl h49))))
              go_wp2_with fail
              refine (inWord_any _ hb hb' w).mono ?_
              rintro e w' ⟨rfl, rfl⟩
              rw [HI.out]
              go_wp2_with fail
              go_ret
              exact ⟨ret_str' HE.out, rfl⟩
            have b48 : ((s.extract 0 k).toList == [48]) = false := beq_eq_false_iff_ne.2 h48
            have b49 : ((s.extract 0 k).toList == [49]) = false := beq_eq_false_iff_ne.2 h49
            cases hvn : vn (s.extract 0 k)
            · have HE := hidIt (HW3.out h48 h49 hvn)
              have HV := hidIt hvn
              clear hvn
              go_wp2_with fail
              refine (inWord_any _ hb hb' w).mono ?_
              rintro e w' ⟨rfl, rfl⟩
              rw [HI.out]
              go_wp2_with fail
              refine (validName_any _ w hxs).mono ?_
              rintro e w' ⟨rfl, rfl⟩
              rw [HV.out]
              go_wp2_with fail
              go_ret
              exact ⟨congrArg (fun l : List UInt8 => Ending.returned (.string ⟨l.toArray⟩)) HE.out.symm, rfl⟩
            · have HE := hidIt (HF.out (HW2.out (.inr (.inr hvn))))
              have HV := hidIt hvn
              clear hvn
              go_wp2_with fail
              refine (inWord_any _ hb hb' w).mono ?_
              rintro e w' ⟨rfl, rfl⟩
              rw [HI.out]
              go_wp2_with fail
              refine (validName_any _ w hxs).mono ?_
              rintro e w' ⟨rfl, rfl⟩
              rw [HV.out]
              go_wp2_with fail
              go_ret
              exact ⟨ret_str' HE.out, rfl⟩
          · clear hc hu
            by_cases h48 : (s.extract 0 k).toList = [48]
            · have HE := hidIt (HF.out (HW2.out (.inl h48)))
              go_wp2_with fail
              go_ret
              exact ⟨ret_str' HE.out, rfl⟩
            by_cases h49 : (s.extract 0 k).toList = [49]
            · have HE := hidIt (HF.out (HW2.out (.inr (.inl h49))))
              go_wp2_with fail
              go_ret
              exact ⟨ret_str' HE.out, rfl⟩
            have b48 : ((s.extract 0 k).toList == [48]) = false := beq_eq_false_iff_ne.2 h48
            have b49 : ((s.extract 0 k).toList == [49]) = false := beq_eq_false_iff_ne.2 h49
            cases hvn : vn (s.extract 0 k)
            · have HE := hidIt (HW3.out h48 h49 hvn)
              have HV := hidIt hvn
              clear hvn
              go_wp2_with fail
              refine (validName_any _ w hxs).mono ?_
              rintro e w' ⟨rfl, rfl⟩
              rw [HV.out]
              go_wp2_with fail
              go_ret
              exact ⟨congrArg (fun l : List UInt8 => Ending.returned (.string ⟨l.toArray⟩)) HE.out.symm, rfl⟩
            · have HE := hidIt (HF.out (HW2.out (.inr (.inr hvn))))
              have HV := hidIt hvn
              clear hvn
              go_wp2_with fail
              refine (validName_any _ w hxs).mono ?_
              rintro e w' ⟨rfl, rfl⟩
              rw [HV.out]
              go_wp2_with fail
              go_ret
              exact ⟨ret_str' HE.out, rfl⟩
end Go.Proofs.YtilkpjcbmllgmaaGreatDoor

namespace Go.Proofs.YtilkpjcbmllgmaaGreatDoor
set_option linter.unusedVariables false
set_option linter.unusedSimpArgs false
open Go.RowKit

/-- Behind spaces. -/
def skipS (l : List UInt8) : List UInt8 := l.dropWhile fun c => c == 32
/-- Behind the current token. -/
def nxt (l : List UInt8) : List UInt8 := skipS (l.drop (tok l).length)

/-- The parser's three cells. -/
def PBox (w : World) (b : Nat) (s : ByteArray) (p : Nat) (t : ByteArray) : Prop := w.heap[b]? = some (.cells #[.string s, .int .i64 (p : Int), .string t] 102 (0, 0))

theorem skipS_step {l : List UInt8} {q : Nat} (hq : q < l.length) (h : l[q] = 32) : skipS (l.drop (q + 1)) = skipS (l.drop q) := by
  rw [List.drop_eq_getElem_cons hq, skipS, skipS, List.dropWhile_cons, if_pos (by rw [h]; rfl)]
theorem skipS_stop {l : List UInt8} {q : Nat} (h : ∀ c, l[q]? = some c → c ≠ 32) : skipS (l.drop q) = l.drop q := by
  by_cases hq : q < l.length
  · rw [List.drop_eq_getElem_cons hq, skipS, List.dropWhile_cons, if_neg]
    have := h _ (List.getElem?_eq_getElem hq)
    simpa using this
  · rw [List.drop_eq_nil_of_le (by omega)]; rfl

theorem PBox.cells {w : World} {b : Nat} {s : ByteArray} {p : Nat} {t : ByteArray} (h : PBox w b s p t) : w.cell? ⟨b, 0, none⟩ = some (.string s) ∧ w.cell? ⟨b, 1, none⟩ = some (.int .i64 (p : Int)) ∧ w.cell? ⟨b, 2, none⟩ = some (.string t) := cell_of3 h
theorem PBox.free {w : World} {b : Nat} {s : ByteArray} {p : Nat} {t : ByteArray} (h : PBox w b s p t) (k : Nat) : w.frozen? ⟨b, k, none⟩ = false := free_any h k
theorem PBox.set1 {w : World} {b : Nat} {s : ByteArray} {p : Nat} {t : ByteArray} (h : PBox w b s p t) (q : Nat) : PBox (w.setCell ⟨b, 1, none⟩ (.int .i64 (q : Int))) b s q t := setCell_heap_self h _
theorem PBox.set2 {w : World} {b : Nat} {s : ByteArray} {p : Nat} {t : ByteArray} (h : PBox w b s p t) (u : ByteArray) : PBox (w.setCell ⟨b, 2, none⟩ (.string u)) b s p u := setCell_heap_self h _
theorem PBox.drewN {w : World} {b : Nat} {s : ByteArray} {p : Nat} {t : ByteArray} (h : PBox w b s p t) (n : Nat) : PBox (w.drewN n) b s p t := h
theorem PBox.lt {w : World} {b : Nat} {s : ByteArray} {p : Nat} {t : ByteArray} (h : PBox w b s p t) : b < w.heap.size := lt_of_block h

theorem extract_drop (s : ByteArray) (k : Nat) : s.extract k s.size = ⟨(s.data.toList.drop k).toArray⟩ := by
  obtain ⟨⟨l⟩⟩ := s
  apply ByteArray.ext
  rw [ByteArray.data_extract]
  show (l.toArray).extract k l.toArray.size = _
  rw [List.size_toArray, List.extract_toArray]
  congr 1
  rw [List.extract_eq_take_drop]
  exact List.take_of_length_le (by simp)
theorem extract_size' (s : ByteArray) (k : Nat) : (s.extract k s.size).size = s.size - k := by
  rw [extract_drop, mk_size, List.length_drop]
  rfl

set_option maxRecDepth 100000 in
set_option maxHeartbeats 1000000 in
theorem next_any (s : ByteArray) (hs : s.size ≤ 1000000) (p : Nat) (t : ByteArray) (hp : p + t.size ≤ s.size) (b : Nat) (hb0 : b ≠ 0) (w : World) (h : PBox w b s p t) (hsg : SignsAt w) :
    Calls Tryz.prog 97 #[.pointer (some ⟨b, 0, none⟩)] w fun e w' => e = .returned (.tuple #[]) ∧ ∃ q, q ≤ s.size ∧ s.data.toList.drop q = skipS (s.data.toList.drop (p + t.size)) ∧ PBox w' b s q ⟨(tok (s.data.toList.drop q)).toArray⟩ ∧ w.grownBy w' (some b) := by
  obtain ⟨c0, c1, c2⟩ := h.cells
  have f1 := h.free 1
  have hlt := h.lt
  have H := hidIt h
  have HSG := hidIt hsg
  clear h hsg
  have hwr : IntKind.i64.wrap ((p : Int) + (t.size : Int)) = (p : Int) + (t.size : Int) := IntWalk.i64_in _ (by omega)
  go_enter Tryz.func97, Tryz.ntmps97
  go_wp2_with fail
  go_still_tail 12, (by kernel_rfl)
  go_wp2_with fail
  have W0 : Hid (PBox (w.setCell ⟨b, 1, none⟩ (.int .i64 ((p : Int) + (t.size : Int)))).drew b s (p + t.size) t) := by
    have := H.out.set1 (p + t.size)
    rw [Int.natCast_add] at this
    exact this
  have G0 : Hid (w.grownBy (w.setCell ⟨b, 1, none⟩ (.int .i64 ((p : Int) + (t.size : Int)))).drew (some b)) := only_drewN (only_setCell (only_refl _ _) (.inl rfl) _) 1
  clear c0 c1 c2 f1 hwr
  generalize (w.setCell ⟨b, 1, none⟩ (.int .i64 ((p : Int) + (t.size : Int)))).drew = W at *
  go_loopg [] (s.size - (p + t.size)) (fun g wr => ∃ q : Nat, q ≤ s.size ∧ g = s.size - q ∧ Hid (skipS (s.data.toList.drop q) = skipS (s.data.toList.drop (p + t.size))) ∧ Hid (PBox wr b s q t) ∧ Hid (w.grownBy wr (some b)))
  case atStart => exact ⟨p + t.size, hp, rfl, rfl, W0.out, G0.out⟩
  case round =>
    clear W0 G0
    obtain ⟨q, hq, rfl, hsk, hbox, hgr⟩ := hrel
    obtain ⟨c0, c1, c2⟩ := hbox.out.cells
    have f1 := hbox.out.free 1
    have f2 := hbox.out.free 2
    have hlt2 := hbox.out.lt
    by_cases hlt3 : q < s.size
    · by_cases h32 : s[q] = 32
      · have hb : (((s[q].toNat : Nat) : Int) == 32) = true := by rw [h32]; rfl
        have HS : Hid (skipS (s.data.toList.drop (q + 1)) = skipS (s.data.toList.drop (p + t.size))) := (skipS_step (by simpa using hlt3) h32).trans hsk.out
        clear h32
        go_wp2_with fail
        go_quiet (fail)
        go_wp2_with fail
        go_roundg (s.size - (q + 1))
        case measure => omega
        case rel => exact ⟨q + 1, by omega, rfl, HS, (by have := (hbox.out.drewN nq).set1 (q + 1); rw [Int.natCast_add] at this; exact this), only_setCell (only_drewN hgr.out nq) (.inl rfl) _⟩
      · have hb : (((s[q].toNat : Nat) : Int) == 32) = false := by
          rw [beq_eq_false_iff_ne]
          intro e
          exact h32 (UInt8.toNat_inj.1 (by rw [show (32 : UInt8).toNat = 32 from rfl]; omega))
        have HS : Hid (s.data.toList.drop q = skipS (s.data.toList.drop (p + t.size))) := by
          show _ = _
          rw [← hsk.out, skipS_stop]
          intro c hc
          obtain ⟨h1, h2⟩ := List.getElem?_eq_some_iff.1 hc
          rw [← h2]
          exact h32
        have hX : Hid ((s.extract q s.size).data.toList = s.data.toList.drop q) := by
          show _ = _
          rw [extract_drop s q]
        have hFT := firstToken_any (s.extract q s.size) (by rw [extract_size' s q]; omega)
        rw [hX.out] at hFT
        have HFT := hidIt hFT
        clear h32 hFT
        go_wp2_with fail
        go_quiet (fail)
        obtain ⟨W2, hW2⟩ : ∃ W, W = wr.drewN nq := ⟨_, rfl⟩
        have hbox2 : PBox W2 b s q t := by rw [hW2]; exact hbox.out.drewN nq
        have hgr2 : Hid (w.grownBy W2 (some b)) := by show World.grownBy _ _ _; rw [hW2]; exact only_drewN hgr.out nq
        rw [← hW2]
        clear hW2 c0 c1 c2 f1 f2 hlt2 hbox hgr
        obtain ⟨c0, c1, c2⟩ := hbox2.cells
        have f2 := hbox2.free 2
        have hlt2 := hbox2.lt
        have HB2 := hidIt hbox2
        have hsg2 := hidIt (HSG.out.kept hgr2.out (fun e => hb0 (by injection e)))
        clear hbox2
        go_wp2_with fail
        refine wp_region_still_tail 13 (by kernel_rfl) (by kernel_rfl) ?_
        simp only [List.take_succ_cons, List.take_zero, List.drop_succ_cons, List.drop_zero]
        repeat still_step
        still_call (HFT.out _ (hsg2.out.go (Below.refl _ _).drew))
        repeat still_step
        refine wpStill_nil ?_
        go_wp2_with fail
        go_end0
        exact ⟨rfl, q, hq, HS.out, (HB2.out.drewN 1).set2 _, only_setCell (only_drewN hgr2.out 1) (.inl rfl) _⟩
    · have hqs : q = s.size := by omega
      have HS : Hid (s.data.toList.drop q = skipS (s.data.toList.drop (p + t.size))) := by
        show _ = _
        rw [← hsk.out, skipS_stop]
        intro c hc
        obtain ⟨h1, h2⟩ := List.getElem?_eq_some_iff.1 hc
        exact absurd h1 (by simp; omega)
      have hX : Hid ((s.extract q s.size).data.toList = s.data.toList.drop q) := by
        show _ = _
        rw [extract_drop s q]
      have hFT := firstToken_any (s.extract q s.size) (by rw [extract_size' s q]; omega)
      rw [hX.out] at hFT
      have HFT := hidIt hFT
      clear hFT hqs
      go_wp2_with fail
      go_quiet (fail)
      obtain ⟨W2, hW2⟩ : ∃ W, W = wr.drewN nq := ⟨_, rfl⟩
      have hbox2 : PBox W2 b s q t := by rw [hW2]; exact hbox.out.drewN nq
      have hgr2 : Hid (w.grownBy W2 (some b)) := by show World.grownBy _ _ _; rw [hW2]; exact only_drewN hgr.out nq
      rw [← hW2]
      clear hW2 c0 c1 c2 f1 f2 hlt2 hbox hgr
      obtain ⟨c0, c1, c2⟩ := hbox2.cells
      have f2 := hbox2.free 2
      have hlt2 := hbox2.lt
      have HB2 := hidIt hbox2
      have hsg2 := hidIt (HSG.out.kept hgr2.out (fun e => hb0 (by injection e)))
      clear hbox2
      go_wp2_with fail
      refine wp_region_still_tail 13 (by kernel_rfl) (by kernel_rfl) ?_
      simp only [List.take_succ_cons, List.take_zero, List.drop_succ_cons, List.drop_zero]
      repeat still_step
      still_call (HFT.out _ (hsg2.out.go (Below.refl _ _).drew))
      repeat still_step
      refine wpStill_nil ?_
      go_wp2_with fail
      go_end0
      exact ⟨rfl, q, hq, HS.out, (HB2.out.drewN 1).set2 _, only_setCell (only_drewN hgr2.out 1) (.inl rfl) _⟩
end Go.Proofs.YtilkpjcbmllgmaaGreatDoor

namespace Go.Proofs.YtilkpjcbmllgmaaGreatDoor
set_option linter.unusedVariables false
set_option linter.unusedSimpArgs false
open Go.RowKit

abbrev Rest := List UInt8

def pairP (op : Int) (sign : Rest) (left right : Rest → Option Tree × Rest) (r : Rest) : Option Tree × Rest :=
  match left r with
  | (some f, r1) =>
    if tok r1 = sign then
      match right (nxt r1) with
      | (some g, r2) => (some (.node op ⟨#[]⟩ [f, g]), r2)
      | (none, r2) => (none, r2)
    else (some f, r1)
  | (none, r1) => (none, r1)

def rowLoop (sign : Rest) (part : Rest → Option Tree × Rest) : Nat → List Tree → Rest → Option (List Tree) × Rest
  | 0, _, r => (none, r)
  | n + 1, l, r =>
    if tok r = sign then
      match part (nxt r) with
      | (some f, r1) => rowLoop sign part n (l ++ [f]) r1
      | (none, r1) => (none, r1)
    else (some l, r)

def rowP (op : Int) (sign : Rest) (part : Rest → Option Tree × Rest) (r : Rest) : Option Tree × Rest :=
  match part r with
  | (some f, r1) =>
    if tok r1 = sign then
      match rowLoop sign part (r1.length + 1) [f] r1 with
      | (some l, r2) => (some (.node op ⟨#[]⟩ l), r2)
      | (none, r2) => (none, r2)
    else (some f, r1)
  | (none, r1) => (none, r1)

/-- A negation of what was read. -/
def notP : Option Tree × Rest → Option Tree × Rest
  | (some f, r) => (some (.node 4 ⟨#[]⟩ [f]), r)
  | (none, r) => (none, r)
/-- The closing parenthesis. -/
def closeP : Option Tree × Rest → Option Tree × Rest
  | (some f, r) => if tok r = [41] then (some f, nxt r) else (none, r)
  | (none, r) => (none, r)

/-- The parser's functions by their rank: 0 equivalence, 1 implication, 2 disjunction, 3 conjunction, 4 negation, 5 primary, 6 group; n bounds the calls. -/
def pF : Nat → Nat → Rest → Option Tree × Rest
  | 0, _, r => (none, r)
  | n + 1, 0, r => pairP 8 [60, 45, 62] (pF n 1) (pF n 1) r
  | n + 1, 1, r => pairP 7 [45, 62] (pF n 2) (pF n 1) r
  | n + 1, 2, r => rowP 6 [124] (pF n 3) r
  | n + 1, 3, r => rowP 5 [38] (pF n 4) r
  | n + 1, 4, r =>
    if tok r = [126] then notP (pF n 4 (nxt r)) else pF n 5 r
  | n + 1, 5, r =>
    if tok r = [40] then pF n 6 r
    else if tok r = [48] then (some (.node 2 ⟨#[]⟩ []), nxt r)
    else if tok r = [49] then (some (.node 1 ⟨#[]⟩ []), nxt r)
    else if vn ⟨(tok r).toArray⟩ then (some (.node 3 ⟨(tok r).toArray⟩ []), nxt r)
    else (none, r)
  | n + 1, _, r => closeP (pF n 0 (nxt r))

theorem pF4 (n : Nat) (r : Rest) : pF (n + 1) 4 r = if tok r = [126] then notP (pF n 4 (nxt r)) else pF n 5 r := rfl
theorem pF5 (n : Nat) (r : Rest) : pF (n + 1) 5 r = if tok r = [40] then pF n 6 r
    else if tok r = [48] then (some (.node 2 ⟨#[]⟩ []), nxt r)
    else if tok r = [49] then (some (.node 1 ⟨#[]⟩ []), nxt r)
    else if vn ⟨(tok r).toArray⟩ then (some (.node 3 ⟨(tok r).toArray⟩ []), nxt r)
    else (none, r) := rfl
theorem pF6 (n k : Nat) (r : Rest) : pF (n + 1) (k + 6) r = closeP (pF n 0 (nxt r)) := rfl

theorem size_data (s : ByteArray) : s.data.toList.length = s.size := by rw [Array.length_toList]; rfl

theorem prefix_len {p l : List UInt8} (h : p.isPrefixOf l = true) : p.length ≤ l.length := (List.isPrefixOf_iff_prefix.1 h).length_le
theorem tok_len (l : List UInt8) : (tok l).length ≤ l.length := by
  unfold tok
  cases h : sgn.find? (fun p => p.isPrefixOf l) with
  | some p =>
    have hp := List.find?_some (p := fun p : List UInt8 => p.isPrefixOf l) h
    exact prefix_len hp
  | none =>
    show (wordTok l).length ≤ l.length
    simp only [wordTok]
    split
    · exact (List.takeWhile_prefix inW).length_le
    · simp
theorem skipS_len (l : List UInt8) : (skipS l).length ≤ l.length := by
  obtain ⟨k, hk⟩ := List.dropWhile_suffix (l := l) (fun c : UInt8 => c == 32)
  have := congrArg List.length hk
  rw [List.length_append] at this
  show (l.dropWhile _).length ≤ _
  omega
theorem nxt_len (l : List UInt8) : (nxt l).length + (tok l).length ≤ l.length := by
  have h1 := skipS_len (l.drop (tok l).length)
  have h2 := tok_len l
  rw [List.length_drop] at h1
  unfold nxt
  omega
theorem nxt_lt {l : List UInt8} {sign : Rest} (hs : 0 < sign.length) (h : tok l = sign) : (nxt l).length < l.length := by
  have := nxt_len l
  rw [h] at this
  omega

/-- A function that leaves no more than it got. -/
def Shrinks (f : Rest → Option Tree × Rest) : Prop := ∀ r, (f r).2.length ≤ r.length

theorem pairP_len {op : Int} {sign : Rest} {left right : Rest → Option Tree × Rest} (hl : Shrinks left) (hr : Shrinks right) : Shrinks (pairP op sign left right) := by
  intro r
  have h1 := hl r
  unfold pairP
  cases hL : left r with
  | mk o r1 =>
    rw [hL] at h1
    simp only at h1
    cases o with
    | none => exact h1
    | some f =>
      simp only
      split
      · have h2 := hr (nxt r1)
        have h3 := nxt_len r1
        cases hR : right (nxt r1) with
        | mk o2 r2 =>
          rw [hR] at h2
          simp only at h2
          cases o2 <;> simp only <;> omega
      · exact h1
theorem rowLoop_len {sign : Rest} {part : Rest → Option Tree × Rest} (hp : Shrinks part) : ∀ (n : Nat) (l : List Tree) (r : Rest), (rowLoop sign part n l r).2.length ≤ r.length
  | 0, l, r => Nat.le_refl _
  | n + 1, l, r => by
    unfold rowLoop
    split
    · have h2 := hp (nxt r)
      have h3 := nxt_len r
      cases hR : part (nxt r) with
      | mk o2 r2 =>
        rw [hR] at h2
        simp only at h2
        cases o2 with
        | none => simp only; omega
        | some f => have := rowLoop_len (sign := sign) hp n (l ++ [f]) r2; simp only; omega
    · exact Nat.le_refl _
theorem rowP_len {op : Int} {sign : Rest} {part : Rest → Option Tree × Rest} (hp : Shrinks part) : Shrinks (rowP op sign part) := by
  intro r
  have h1 := hp r
  unfold rowP
  cases hL : part r with
  | mk o r1 =>
    rw [hL] at h1
    simp only at h1
    cases o with
    | none => exact h1
    | some f =>
      simp only
      split
      · have h2 := rowLoop_len (sign := sign) hp (r1.length + 1) [f] r1
        cases hR : rowLoop sign part (r1.length + 1) [f] r1 with
        | mk o2 r2 =>
          rw [hR] at h2
          simp only at h2
          cases o2 <;> simp only <;> omega
      · exact h1
theorem pF_len : ∀ (n k : Nat), Shrinks (pF n k) := by
  intro n
  induction n with
  | zero => intro k r; exact Nat.le_refl _
  | succ n ih =>
    intro k
    match k with
    | 0 => exact pairP_len (ih 1) (ih 1)
    | 1 => exact pairP_len (ih 2) (ih 1)
    | 2 => exact rowP_len (ih 3)
    | 3 => exact rowP_len (ih 4)
    | 4 =>
      intro r
      rw [pF4]
      split
      · have h2 := ih 4 (nxt r)
        have h3 := nxt_len r
        cases hR : pF n 4 (nxt r) with
        | mk o2 r2 =>
          rw [hR] at h2
          simp only at h2
          cases o2 <;> simp only [notP] <;> omega
      · exact ih 5 r
    | 5 =>
      intro r
      have h3 := nxt_len r
      rw [pF5]
      split
      · exact ih 6 r
      split
      · simp only; omega
      split
      · simp only; omega
      split
      · simp only; omega
      · exact Nat.le_refl _
    | k + 6 =>
      intro r
      have h2 := ih 0 (nxt r)
      have h3 := nxt_len r
      rw [pF6]
      cases hR : pF n 0 (nxt r) with
      | mk o2 r2 =>
        rw [hR] at h2
        simp only at h2
        cases o2 with
        | none => simp only [closeP]; omega
        | some f =>
          have h4 := nxt_len r2
          simp only [closeP]
          split <;> simp only <;> omega

/-- The parser stands at this rest of its text. -/
structure PAt (w : World) (b : Nat) (s : ByteArray) (r : Rest) : Prop where
  ex : ∃ p : Nat, p ≤ s.size ∧ r = s.data.toList.drop p ∧ PBox w b s p ⟨(tok r).toArray⟩
  signs : SignsAt w
  hb0 : b ≠ 0
  hs : s.size ≤ 4096
section
variable {w w' : World} {b : Nat} {s : ByteArray} {r : Rest}
theorem PAt.lt (h : PAt w b s r) : b < w.heap.size := by obtain ⟨p, _, _, hp⟩ := h.ex; exact hp.lt
theorem PAt.go (h : PAt w b s r) (hb : Below w.heap.size w w') : PAt w' b s r := by
  obtain ⟨p, h1, h2, h3⟩ := h.ex
  exact ⟨⟨p, h1, h2, blk_kept h3 hb⟩, h.signs.go hb, h.hb0, h.hs⟩
theorem PAt.kept {row : Option Nat} (h : PAt w b s r) (hg : w.grownBy w' row) (hr : row ≠ some b) (h0 : row ≠ some 0) : PAt w' b s r := by
  obtain ⟨p, h1, h2, h3⟩ := h.ex
  exact ⟨⟨p, h1, h2, by unfold PBox; rw [hg.block b h3.lt (fun e => hr e.symm)]; exact h3⟩, h.signs.kept hg h0, h.hb0, h.hs⟩
theorem PAt.alloc (h : PAt w b s r) (o : Obj) : PAt (w.alloc o) b s r := h.go ((Below.refl _ _).alloc (Nat.le_refl _) o)
theorem PAt.cells (h : PAt w b s r) : w.cell? ⟨b, 0, none⟩ = some (.string s) ∧ w.cell? ⟨b, 2, none⟩ = some (.string ⟨(tok r).toArray⟩) := by
  obtain ⟨p, _, _, hp⟩ := h.ex
  exact ⟨hp.cells.1, hp.cells.2.2⟩
theorem PAt.len (h : PAt w b s r) : r.length ≤ 4096 := by
  obtain ⟨p, _, rfl, hp⟩ := h.ex
  have := h.hs
  rw [List.length_drop]
  have e := size_data s
  omega

theorem next_at (h : PAt w b s r) : Calls Tryz.prog 97 #[.pointer (some ⟨b, 0, none⟩)] w fun e w' => e = .returned (.tuple #[]) ∧ PAt w' b s (nxt r) ∧ w.grownBy w' (some b) := by
  obtain ⟨p, h1, h2, h3⟩ := h.ex
  have hl : (tok r).length ≤ r.length := tok_len r
  have e := size_data s
  have hr : r.length = s.size - p := by rw [h2, List.length_drop, e]
  have hz := h.hs
  refine (next_any s (by omega) p ⟨(tok r).toArray⟩ (by rw [mk_size]; omega) b h.hb0 w h3 h.signs).mono ?_
  rintro e' w' ⟨he, q, hq, hd, hbox, hg⟩
  have hn : s.data.toList.drop q = nxt r := by
    rw [hd, mk_size, nxt, h2, List.drop_drop, ← h2]
  rw [hn] at hbox
  exact ⟨he, ⟨⟨q, hq, hn.symm, hbox⟩, h.signs.kept hg (fun e => h.hb0 (by injection e)), h.hb0, h.hs⟩, hg⟩
end
end Go.Proofs.YtilkpjcbmllgmaaGreatDoor

namespace Go.Proofs.YtilkpjcbmllgmaaGreatDoor
set_option linter.unusedVariables false
set_option linter.unusedSimpArgs false
open Go.RowKit

/-- What a reading method leaves. -/
def PPost (w : World) (b : Nat) (s : ByteArray) (res : Option Tree × Rest) (e : Ending) (w' : World) : Prop :=
  ∃ (op : Int) (nm : ByteArray) (a : Option Addr) (n c : Nat), e = .returned (.tuple #[.agg #[.int .i64 op, .string nm, .slice a n c], .bool res.1.isSome]) ∧
    (∀ f, res.1 = some f → FormIn w' (fun i => w.heap.size ≤ i) (.agg #[.int .i64 op, .string nm, .slice a n c]) f) ∧ PAt w' b s res.2 ∧ w.grownBy w' (some b)

/-- The method number f reads what the specification says, at this rest. -/
def POk (f : Nat) (spec : Rest → Option Tree × Rest) (r : Rest) : Prop :=
  ∀ (w : World) (b : Nat) (s : ByteArray), PAt w b s r → Calls Tryz.prog f #[.pointer (some ⟨b, 0, none⟩)] w (PPost w b s (spec r))

/-- A block stays where another one is written. -/
theorem own_kept {w w' : World} {i b : Nat} {o : Obj} (h : w.heap[i]? = some o) (hg : w.grownBy w' (some b)) (hi : i ≠ b) : w'.heap[i]? = some o := by
  rw [hg.block i (lt_of_block h) (fun e => hi (by injection e))]
  exact h
theorem cells_free {w : World} {b : Nat} {x y z : Value} {t : TypeId} (h : w.heap[b]? = some (.cells #[x, y, z] t (0, 0))) : w.frozen? ⟨b, 0, none⟩ = false ∧ w.frozen? ⟨b, 1, none⟩ = false ∧ w.frozen? ⟨b, 2, none⟩ = false := ⟨free_any h 0, free_any h 1, free_any h 2⟩

/-- Writing a block that is newer than w changes nothing of w. -/
theorem only_new {w w2 w' : World} {b R : Nat} (h : w.grownBy w2 (some b)) (hg : w2.grownBy w' (some R)) (hR : w.heap.size ≤ R) : w.grownBy w' (some b) :=
  ⟨hg.os.trans h.os, hg.tape.trans h.tape, hg.output.trans h.output, Nat.le_trans h.size hg.size, fun i hi hne => (hg.block i (Nat.lt_of_lt_of_le hi h.size) (fun e => by injection e with e; omega)).trans (h.block i hi hne)⟩
theorem FormIn.over {w1 w2 w' : World} {R B : Nat} {v : Value} {t : Tree} (h : FormIn w2 (fun i => B ≤ i) v t) (hg : w2.grownBy w' (some R)) (hR : R < B) : FormIn w' (fun i => B ≤ i) v t :=
  h.kept fun i hi hl => hg.block i hl (fun e => by injection e with e; omega)
/-- Three cells of block R written. -/
theorem set_three (w : World) (R : Nat) (x y z : Value) : w.grownBy (((w.setCell ⟨R, 0, none⟩ x).setCell ⟨R, 1, none⟩ y).setCell ⟨R, 2, none⟩ z) (some R) := by
  have h1 : w.grownBy (w.setCell ⟨R, 0, none⟩ x) (some R) := only_setCell (p := ⟨R, 0, none⟩) (only_refl w (some R)) (.inl rfl) x
  have h2 : w.grownBy ((w.setCell ⟨R, 0, none⟩ x).setCell ⟨R, 1, none⟩ y) (some R) := only_setCell (p := ⟨R, 1, none⟩) h1 (.inl rfl) y
  exact only_setCell (p := ⟨R, 2, none⟩) h2 (.inl rfl) z

theorem notP_some (x : Option Tree × Rest) : (notP x).1.isSome = x.1.isSome := by obtain ⟨o, r⟩ := x; cases o <;> rfl
theorem notP_rest (x : Option Tree × Rest) : (notP x).2 = x.2 := by obtain ⟨o, r⟩ := x; cases o <;> rfl
theorem notP_tree {x : Option Tree × Rest} {f : Tree} (h : (notP x).1 = some f) : ∃ g, x.1 = some g ∧ f = .node 4 ⟨#[]⟩ [g] := by
  obtain ⟨o, r⟩ := x
  cases o with
  | none => cases h
  | some g => exact ⟨g, rfl, (Option.some.inj h).symm⟩
theorem i64_small {n : Int} (h : 0 ≤ n) (h' : n ≤ 9) : I64 n := by unfold I64; omega
theorem nil_le : (⟨#[]⟩ : ByteArray).size ≤ maxLen := Nat.zero_le _

set_option maxRecDepth 100000 in
set_option maxHeartbeats 1000000 in
theorem neg_walk (n : Nat) (r : Rest) (hneg : ∀ r', r'.length < r.length → POk 148 (pF n 4) r') (hprim : POk 151 (pF n 5) r) : POk 148 (pF (n + 1) 4) r := by
  intro w b s h
  obtain ⟨c0, c2⟩ := h.cells
  have hlt := h.lt
  have H := hidIt h
  obtain ⟨T, hT⟩ : ∃ T, T = (⟨(tok r).toArray⟩ : ByteArray) := ⟨_, rfl⟩
  have hTl : T.toList = tok r := by rw [hT, Lib.toList_data]
  rw [← hT] at c2
  have HN := hidIt hneg
  have HP := hidIt hprim
  clear hT hneg hprim h
  by_cases ht : tok r = [126]
  · have HE : Hid (pF (n + 1) 4 r = notP (pF n 4 (nxt r))) := by show _ = _; rw [pF4, if_pos ht]
    have hq : (T.toList == [126]) = true := by rw [hTl, ht]; rfl
    have hL : Hid ((nxt r).length < r.length) := nxt_lt (by decide) ht
    clear hTl ht
    go_enter Tryz.func148, Tryz.ntmps148
    go_wp2_with fail
    refine (next_at (H.out.alloc _)).mono ?_
    rintro e w1 ⟨rfl, hp1, hg1⟩
    have HP1 := hidIt hp1
    have HG1 : Hid (w.grownBy w1 (some b)) := only_trans (only_alloc (only_refl _ _) _) hg1
    have HK1 := hidIt (own_kept (heap_alloc_new w _) hg1 (by omega))
    have hlt1 := hp1.lt
    clear hp1 hg1 c0 c2
    go_wp2_with fail
    refine (HN.out (nxt r) hL.out w1 b s HP1.out).mono ?_
    rintro e w2 ⟨op, nm, a, k, c, rfl, hf, hp2, hg2⟩
    have HF2 := hidIt hf
    have HP2 := hidIt hp2
    have HG2 := hidIt (only_trans HG1.out hg2)
    have HK2 := hidIt (own_kept HK1.out hg2 (by omega))
    have hlt2 := hp2.lt
    have hsz1 := HG1.out.size
    have hsz2 := hg2.size
    have hR := lt_of_block HK2.out
    obtain ⟨r0, r1, r2⟩ := cell_of3 HK2.out
    obtain ⟨f0, f1, f2⟩ := cells_free HK2.out
    clear hf hp2 hg2
    generalize hok : (pF n 4 (nxt r)).1.isSome = okb at *
    have HOK := hidIt hok
    clear hok
    go_wp2_with fail
    refine bodyPost_ret (v := .tuple #[.agg #[.int .i64 4, .string ⟨#[]⟩, .slice (some ⟨w2.heap.size + 1, 0, none⟩) 1 1], .bool okb]) (by simp [results, Tryz.results148, go_sem, r0, r1, r2, hR]) rfl ?_
    have hgF : w2.grownBy (((((w2.setCell ⟨w.heap.size, 0, none⟩ (.int .i64 4)).setCell ⟨w.heap.size, 1, none⟩ (.string ⟨#[]⟩)).setCell ⟨w.heap.size, 2, none⟩ (.slice (some ⟨w2.heap.size + 1, 0, none⟩) 1 1)).alloc (.cells #[.int .i64 op, .string nm, .slice a k c] 24)).alloc (.cells #[.int .i64 op, .string nm, .slice a k c] 24)) (some w.heap.size) := only_alloc (only_alloc (set_three _ _ _ _ _) _) _
    refine ⟨4, ⟨#[]⟩, _, 1, 1, by rw [HE.out, notP_some, HOK.out], fun f hf => ?_, ?_, only_new HG2.out hgF (Nat.le_refl _)⟩
    · rw [HE.out] at hf
      obtain ⟨g, hg, rfl⟩ := notP_tree hf
      have hR1 := lt_of_block HK1.out
      have h1 := ((HF2.out g hg).over (w1 := w1) hgF (by omega)).mono (S' := fun i => w.heap.size ≤ i) (fun i _ hi => by omega)
      exact FormIn.mk (FormsIn.one (heap_alloc_at (by simp [World.setCell])) (by show _ ≤ _; omega) h1) rfl (i64_small (by omega) (by omega)) nil_le (Nat.le_refl _) (by unfold maxLen; simp)
    · rw [HE.out, notP_rest]
      exact HP2.out.kept hgF (fun e => by injection e with e; omega) (fun e => by injection e with e; omega)
  · have HE : Hid (pF (n + 1) 4 r = pF n 5 r) := by show _ = _; rw [pF4, if_neg ht]
    have hq : (T.toList == [126]) = false := by rw [hTl]; exact beq_eq_false_iff_ne.2 ht
    clear hTl ht
    go_enter Tryz.func148, Tryz.ntmps148
    go_wp2_with fail
    refine (HP.out _ b s (H.out.alloc _)).mono ?_
    rintro e w2 ⟨op, nm, a, k, c, rfl, hf, hp2, hg2⟩
    have HF2 := hidIt hf
    have HP2 := hidIt hp2
    have HG2 : Hid (w.grownBy w2 (some b)) := only_trans (only_alloc (only_refl _ _) _) hg2
    have HK2 := hidIt (own_kept (heap_alloc_new w _) hg2 (by omega))
    have hR := lt_of_block HK2.out
    obtain ⟨r0, r1, r2⟩ := cell_of3 HK2.out
    obtain ⟨f0, f1, f2⟩ := cells_free HK2.out
    clear hf hp2 hg2
    generalize hok : (pF n 5 r).1.isSome = okb at *
    have HOK := hidIt hok
    clear hok
    go_wp2_with fail
    refine bodyPost_ret (v := .tuple #[.agg #[.int .i64 op, .string nm, .slice a k c], .bool okb]) (by simp [results, Tryz.results148, go_sem, r0, r1, r2, hR]) rfl ?_
    have hgF := set_three w2 w.heap.size (.int .i64 op) (.string nm) (.slice a k c)
    refine ⟨op, nm, a, k, c, by rw [HE.out, HOK.out], fun f hf => ?_, ?_, only_new HG2.out hgF (Nat.le_refl _)⟩
    · rw [HE.out] at hf
      exact ((HF2.out f hf).over (w1 := w) hgF (by simp)).mono (fun i _ hi => by simp at hi; omega)
    · rw [HE.out]
      exact HP2.out.kept hgF (fun e => by injection e with e; omega) (fun e => by injection e with e; omega)
end Go.Proofs.YtilkpjcbmllgmaaGreatDoor
