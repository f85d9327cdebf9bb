/- Formulas as trees, and how they lie in memory. -/
import Derived.Test.YtpiiadmjddikfaaDoorKeep
import Derived.Test.YtpiiadmjddikfaaDoorIn
namespace Go.Proofs.YtpiiadmjddikfaaDoor
set_option linter.unusedVariables false
set_option linter.unusedSimpArgs false
open Go.RowKit

/-- A formula as a tree. -/
inductive Tree where
  | node (op : Int) (name : ByteArray) (args : List Tree)

instance : Inhabited Tree := ⟨.node 0 ⟨#[]⟩ []⟩

theorem Tree.ind {m : Tree → Prop} (h : ∀ op name ts, (∀ t ∈ ts, m t) → m (.node op name ts)) : ∀ t, m t
  | .node op name ts => h op name ts (fun t ht => Tree.ind h t)
termination_by t => t
decreasing_by
  have := List.sizeOf_lt_of_mem ht
  simp
  omega

def Tree.op : Tree → Int | .node op _ _ => op
def Tree.name : Tree → ByteArray | .node _ s _ => s
def Tree.args : Tree → List Tree | .node _ _ ts => ts

theorem Tree.op_node (op : Int) (name : ByteArray) (ts : List Tree) : (Tree.node op name ts).op = op := rfl
theorem Tree.name_node (op : Int) (name : ByteArray) (ts : List Tree) : (Tree.node op name ts).name = name := rfl
theorem Tree.args_node (op : Int) (name : ByteArray) (ts : List Tree) : (Tree.node op name ts).args = ts := rfl

/-- What a call that had its argument boxed leaves. -/
theorem below_box {w w1 : World} {o : Obj} (hb : Below (w.alloc o).heap.size (w.alloc o) w1) : Below w.heap.size w w1 := ((Below.refl _ _).alloc (Nat.le_refl _) o).trans (hb.mono (by simp))

/-- A block that was laid ahead of a call that makes memory alone. -/
theorem laid_box {w w1 : World} {cs : Array Value} {t : TypeId} (hb : Below (w.alloc (.cells cs t)).heap.size (w.alloc (.cells cs t)) w1) : w1.heap[w.heap.size]? = some (.cells cs t (0, 0)) := by
  rw [hb.block w.heap.size (by simp)]
  exact heap_alloc_new w _
theorem blk_kept {w w1 : World} {b : Nat} {o : Obj} (h : w.heap[b]? = some o) (hb : Below w.heap.size w w1) : w1.heap[b]? = some o := by
  rw [hb.block b (lt_of_block h)]
  exact h
theorem heap_alloc_at {w : World} {o : Obj} {n : Nat} (h : n = w.heap.size) : (w.alloc o).heap[n]? = some o := by subst h; exact heap_alloc_new w o
theorem cell_of3 {w : World} {b : Nat} {x y z : Value} {t : TypeId} (h : w.heap[b]? = some (.cells #[x, y, z] t (0, 0))) : w.cell? ⟨b, 0, none⟩ = some x ∧ w.cell? ⟨b, 1, none⟩ = some y ∧ w.cell? ⟨b, 2, none⟩ = some z :=
  ⟨by simp [World.cell?, h], by simp [World.cell?, h], by simp [World.cell?, h]⟩

mutual
def Tree.nodes : Tree → Nat
  | .node _ _ ts => 1 + nodesL ts
def nodesL : List Tree → Nat
  | [] => 0
  | t :: ts => t.nodes + nodesL ts
end

theorem nodesL_append : ∀ (l m : List Tree), nodesL (l ++ m) = nodesL l + nodesL m
  | [], m => by simp [nodesL]
  | t :: l, m => by simp only [List.cons_append, nodesL, nodesL_append l m]; omega

theorem take_snoc' {α : Type} (l : List α) (k : Nat) (h : k < l.length) : l.take (k + 1) = l.take k ++ [l[k]] := List.take_succ_eq_append_getElem h

theorem nodesL_take (l : List Tree) (k : Nat) (h : k < l.length) : nodesL (l.take (k + 1)) = nodesL (l.take k) + (l[k]).nodes := by
  rw [take_snoc' l k h, nodesL_append]
  simp [nodesL]

theorem nodesL_take_le (l : List Tree) (k : Nat) : nodesL (l.take k) ≤ nodesL l := by
  have h := nodesL_append (l.take k) (l.drop k)
  rw [List.take_append_drop] at h
  omega

theorem Tree.nodes_pos (t : Tree) : 0 < t.nodes := by cases t; simp [Tree.nodes]; omega

theorem nodes_mem_le {l : List Tree} {t : Tree} (h : t ∈ l) : t.nodes ≤ nodesL l := by
  obtain ⟨k, hk, rfl⟩ := List.mem_iff_getElem.1 h
  have h1 := nodesL_take l k hk
  have h2 := nodesL_take_le l (k + 1)
  omega

theorem nodes_len_le (l : List Tree) : l.length ≤ nodesL l := by
  induction l with
  | nil => simp
  | cons t l ih => have := t.nodes_pos; simp only [List.length_cons, nodesL]; omega

mutual
def Tree.depth : Tree → Nat
  | .node _ _ ts => depthL ts
def depthL : List Tree → Nat
  | [] => 0
  | t :: ts => max (1 + t.depth) (depthL ts)
end

theorem depthL_append : ∀ (l m : List Tree), depthL (l ++ m) = max (depthL l) (depthL m)
  | [], m => by simp [depthL]
  | t :: l, m => by simp only [List.cons_append, depthL, depthL_append l m]; omega
theorem depthL_take (l : List Tree) (k : Nat) (h : k < l.length) : depthL (l.take (k + 1)) = max (depthL (l.take k)) (1 + (l[k]).depth) := by
  rw [take_snoc' l k h, depthL_append]
  simp [depthL]
theorem depthL_take_le (l : List Tree) (k : Nat) : depthL (l.take k) ≤ depthL l := by
  have h := depthL_append (l.take k) (l.drop k)
  rw [List.take_append_drop] at h
  omega
theorem depth_lt_nodes : ∀ t : Tree, t.depth < t.nodes := Tree.ind fun op name ts ih => by
  have key : ∀ l : List Tree, (∀ t ∈ l, t.depth < t.nodes) → depthL l ≤ nodesL l := by
    intro l hl
    induction l with
    | nil => simp [depthL]
    | cons t l ih2 =>
      have h1 := hl t (by simp)
      have h2 := ih2 fun t ht => hl t (by simp [ht])
      simp only [depthL, nodesL]
      omega
  have := key ts ih
  simp only [Tree.depth, Tree.nodes]
  omega

mutual
/-- Does every node pass the test? -/
def Tree.all (p : Tree → Bool) : Tree → Bool
  | .node op name ts => p (.node op name ts) && allL p ts
def allL (p : Tree → Bool) : List Tree → Bool
  | [] => true
  | t :: ts => t.all p && allL p ts
end
theorem allL_append (p : Tree → Bool) : ∀ (l m : List Tree), allL p (l ++ m) = (allL p l && allL p m)
  | [], m => by simp [allL]
  | t :: l, m => by simp only [List.cons_append, allL, allL_append p l m, Bool.and_assoc]
theorem allL_take (p : Tree → Bool) (l : List Tree) (k : Nat) (h : k < l.length) : allL p (l.take (k + 1)) = (allL p (l.take k) && (l[k]).all p) := by
  rw [take_snoc' l k h, allL_append]
  simp [allL]
theorem allL_take_false (p : Tree → Bool) (l : List Tree) (k : Nat) (h : allL p (l.take k) = false) : allL p l = false := by
  have h2 := allL_append p (l.take k) (l.drop k)
  rw [List.take_append_drop, h] at h2
  simpa using h2

/-- The value is the formula t in the world w; all cells that it reads lie in blocks of S. -/
inductive FormIn (w : World) (S : Nat → Prop) : Value → Tree → Prop
  | node (op : Int) (name : ByteArray) (a : Option Addr) (cap : Nat) (ts : List Tree) (b off : Nat) (o : Nat → Int) (s : Nat → ByteArray) (v : Nat → Value)
    (hop : I64 op) (hname : name.size ≤ maxLen) (hlen : ts.length ≤ cap) (hcap : cap ≤ maxLen)
    (ha : 0 < ts.length → a = some ⟨b, off, none⟩ ∧ S b)
    (hc : ∀ i, i < ts.length → w.cell? ⟨b, off + i * 3, none⟩ = some (.int .i64 (o i)) ∧ w.cell? ⟨b, off + i * 3 + 1, none⟩ = some (.string (s i)) ∧ w.cell? ⟨b, off + i * 3 + 2, none⟩ = some (v i))
    (hs : ∀ i (h : i < ts.length), FormIn w S (.agg #[.int .i64 (o i), .string (s i), v i]) ts[i]) :
    FormIn w S (.agg #[.int .i64 op, .string name, .slice a ts.length cap]) (.node op name ts)

/-- No cell lies in block 'row'. -/
abbrev FormAt (w : World) (row : Option Nat) (v : Value) (t : Tree) : Prop := FormIn w (fun b => row ≠ some b) v t

theorem FormIn.kept {w w' : World} {S : Nat → Prop} {v : Value} {t : Tree} (h : FormIn w S v t) (hg : ∀ i, S i → i < w.heap.size → w'.heap[i]? = w.heap[i]?) : FormIn w' S v t := by
  induction h with
  | node op name a cap ts b off o s v hop hname hlen hcap ha hc hs ih =>
    refine .node op name a cap ts b off o s v hop hname hlen hcap ha (fun i hi => ?_) ih
    have hS : S b := (ha (by omega)).2
    obtain ⟨c0, c1, c2⟩ := hc i hi
    have hb : w'.heap[b]? = w.heap[b]? := hg b hS (World.block_lt_of_cell? w ⟨b, off + i * 3, none⟩ c0)
    exact ⟨(World.cell?_of_block (a := ⟨b, off + i * 3, none⟩) hb).trans c0, (World.cell?_of_block (a := ⟨b, off + i * 3 + 1, none⟩) hb).trans c1, (World.cell?_of_block (a := ⟨b, off + i * 3 + 2, none⟩) hb).trans c2⟩
theorem FormIn.mono {w : World} {S S' : Nat → Prop} {v : Value} {t : Tree} (h : FormIn w S v t) (hS : ∀ i, i < w.heap.size → S i → S' i) : FormIn w S' v t := by
  induction h with
  | node op name a cap ts b off o s v hop hname hlen hcap ha hc hs ih =>
    exact .node op name a cap ts b off o s v hop hname hlen hcap (fun h => ⟨(ha h).1, hS b (World.block_lt_of_cell? w ⟨b, off + 0 * 3, none⟩ (hc 0 h).1) (ha h).2⟩) hc ih

theorem FormIn.go {w w' : World} {S : Nat → Prop} {v : Value} {t : Tree} (h : FormIn w S v t) (hb : Below w.heap.size w w') : FormIn w' S v t := h.kept fun i _ hi => hb.block i hi

theorem FormAt.kept {w w' : World} {row : Option Nat} {v : Value} {t : Tree} (h : FormAt w row v t) (hg : w.grownBy w' row) : FormAt w' row v t :=
  FormIn.kept h fun i hi hl => hg.block i hl (fun e => hi e.symm)

theorem FormAt.go {w w' : World} {row : Option Nat} {v : Value} {t : Tree} (h : FormAt w row v t) (hb : Below w.heap.size w w') : FormAt w' row v t := FormIn.go h hb

theorem FormIn.free {w : World} {S : Nat → Prop} {v : Value} {t : Tree} (h : FormIn w S v t) : FormAt w none v t := h.mono fun _ _ _ => by simp

/-- No formula lies in a block that is yet to come. -/
theorem FormAt.avoid {w : World} {row : Option Nat} {v : Value} {t : Tree} (h : FormAt w row v t) {n : Nat} (hn : w.heap.size ≤ n) : FormAt w (some n) v t :=
  FormIn.mono h fun i hi _ e => by injection e with e; omega

/-- The form of a formula's value, and its arguments. -/
theorem FormIn.form {w : World} {S : Nat → Prop} {v : Value} {t : Tree} (h : FormIn w S v t) : ∃ (a : Option Addr) (cap b off : Nat), v = .agg #[.int .i64 t.op, .string t.name, .slice a t.args.length cap] ∧ I64 t.op ∧ t.name.size ≤ maxLen ∧ t.args.length ≤ cap ∧ cap ≤ maxLen ∧
    (0 < t.args.length → a = some ⟨b, off, none⟩ ∧ S b) ∧
    ∀ i (h : i < t.args.length), ∃ (a' : Option Addr) (c' : Nat), w.cell? ⟨b, off + i * 3, none⟩ = some (.int .i64 t.args[i].op) ∧ w.cell? ⟨b, off + i * 3 + 1, none⟩ = some (.string t.args[i].name) ∧ w.cell? ⟨b, off + i * 3 + 2, none⟩ = some (.slice a' t.args[i].args.length c') ∧ FormIn w S (.agg #[.int .i64 t.args[i].op, .string t.args[i].name, .slice a' t.args[i].args.length c']) t.args[i] := by
  cases h with
  | node op name a cap ts b off o s v hop hname hlen hcap ha hc hs =>
    refine ⟨a, cap, b, off, rfl, hop, hname, hlen, hcap, ha, fun i hi => ?_⟩
    have hi' : i < ts.length := hi
    have h1 := hs i hi'
    obtain ⟨c0, c1, c2⟩ := hc i hi'
    generalize o i = oi at h1 c0
    generalize s i = si at h1 c1
    generalize v i = vi at h1 c2
    show ∃ (a' : Option Addr) (c' : Nat), w.cell? ⟨b, off + i * 3, none⟩ = some (.int .i64 ts[i].op) ∧ w.cell? ⟨b, off + i * 3 + 1, none⟩ = some (.string ts[i].name) ∧ w.cell? ⟨b, off + i * 3 + 2, none⟩ = some (.slice a' ts[i].args.length c') ∧ FormIn w S (.agg #[.int .i64 ts[i].op, .string ts[i].name, .slice a' ts[i].args.length c']) ts[i]
    generalize ts[i] = t at h1
    cases h1 with
    | node op' name' a' cap' ts' b' off' o' s' v' hop' hname' hlen' hcap' ha' hc' hs' =>
      exact ⟨a', cap', c0, c1, c2, .node _ _ a' cap' ts' b' off' o' s' v' hop' hname' hlen' hcap' ha' hc' hs'⟩

/-- A row of formulas. -/
def FormsIn (w : World) (S : Nat → Prop) (a : Option Addr) (ts : List Tree) : Prop := ∃ b off : Nat, (0 < ts.length → a = some ⟨b, off, none⟩ ∧ S b) ∧
  ∀ i (h : i < ts.length), ∃ (a' : Option Addr) (c' : Nat), w.cell? ⟨b, off + i * 3, none⟩ = some (.int .i64 ts[i].op) ∧ w.cell? ⟨b, off + i * 3 + 1, none⟩ = some (.string ts[i].name) ∧ w.cell? ⟨b, off + i * 3 + 2, none⟩ = some (.slice a' ts[i].args.length c') ∧ FormIn w S (.agg #[.int .i64 ts[i].op, .string ts[i].name, .slice a' ts[i].args.length c']) ts[i]
abbrev FormsAt (w : World) (row : Option Nat) (a : Option Addr) (ts : List Tree) : Prop := FormsIn w (fun b => row ≠ some b) a ts

theorem FormIn.shape {w : World} {S : Nat → Prop} {o : Int} {s : ByteArray} {a : Option Addr} {n cap : Nat} {t : Tree} (h : FormIn w S (.agg #[.int .i64 o, .string s, .slice a n cap]) t) : o = t.op ∧ s = t.name ∧ n = t.args.length := by
  obtain ⟨a', cap', b, off, e, -⟩ := h.form
  simp at e
  exact ⟨e.1, e.2.1, e.2.2.2.1⟩

theorem FormIn.forms {w : World} {S : Nat → Prop} {o : Int} {s : ByteArray} {a : Option Addr} {n cap : Nat} {t : Tree} (h : FormIn w S (.agg #[.int .i64 o, .string s, .slice a n cap]) t) : FormsIn w S a t.args := by
  obtain ⟨a', cap', b, off, e, -, -, -, -, ha, hc⟩ := h.form
  have e1 : a = a' := by
    simp at e
    exact e.2.2.1
  subst e1
  exact ⟨b, off, ha, hc⟩

theorem FormsIn.kept {w w' : World} {S : Nat → Prop} {a : Option Addr} {ts : List Tree} (h : FormsIn w S a ts) (hg : ∀ i, S i → i < w.heap.size → w'.heap[i]? = w.heap[i]?) : FormsIn w' S a ts := by
  obtain ⟨b, off, ha, hc⟩ := h
  refine ⟨b, off, ha, fun i hi => ?_⟩
  obtain ⟨a', c', h0, h1, h2, h3⟩ := hc i hi
  have hb : w'.heap[b]? = w.heap[b]? := hg b (ha (by omega)).2 (World.block_lt_of_cell? w ⟨b, off + i * 3, none⟩ h0)
  exact ⟨a', c', (World.cell?_of_block (a := ⟨b, off + i * 3, none⟩) hb).trans h0, (World.cell?_of_block (a := ⟨b, off + i * 3 + 1, none⟩) hb).trans h1, (World.cell?_of_block (a := ⟨b, off + i * 3 + 2, none⟩) hb).trans h2, h3.kept hg⟩
theorem FormsIn.go {w w' : World} {S : Nat → Prop} {a : Option Addr} {ts : List Tree} (h : FormsIn w S a ts) (hb : Below w.heap.size w w') : FormsIn w' S a ts := h.kept fun i _ hi => hb.block i hi
theorem FormsIn.mono {w : World} {S S' : Nat → Prop} {a : Option Addr} {ts : List Tree} (h : FormsIn w S a ts) (hS : ∀ i, i < w.heap.size → S i → S' i) : FormsIn w S' a ts := by
  obtain ⟨b, off, ha, hc⟩ := h
  refine ⟨b, off, fun h => ⟨(ha h).1, ?_⟩, fun i hi => ?_⟩
  · obtain ⟨a', c', h0, -⟩ := hc 0 h
    exact hS b (World.block_lt_of_cell? w ⟨b, off + 0 * 3, none⟩ h0) (ha h).2
  · obtain ⟨a', c', h0, h1, h2, h3⟩ := hc i hi
    exact ⟨a', c', h0, h1, h2, h3.mono hS⟩

/-- The element number i of a row. -/
theorem FormsIn.at {w : World} {S : Nat → Prop} {a : Option Addr} {ts : List Tree} (h : FormsIn w S a ts) (i : Nat) (hi : i < ts.length) : ∃ (b off : Nat) (a' : Option Addr) (c' : Nat), a = some ⟨b, off, none⟩ ∧ w.cell? ⟨b, off + i * 3, none⟩ = some (.int .i64 ts[i].op) ∧ w.cell? ⟨b, off + i * 3 + 1, none⟩ = some (.string ts[i].name) ∧ w.cell? ⟨b, off + i * 3 + 2, none⟩ = some (.slice a' ts[i].args.length c') ∧ FormIn w S (.agg #[.int .i64 ts[i].op, .string ts[i].name, .slice a' ts[i].args.length c']) ts[i] := by
  obtain ⟨b, off, ha, hc⟩ := h
  obtain ⟨a', c', h0, h1, h2, h3⟩ := hc i hi
  exact ⟨b, off, a', c', (ha (by omega)).1, h0, h1, h2, h3⟩
end Go.Proofs.YtpiiadmjddikfaaDoor
