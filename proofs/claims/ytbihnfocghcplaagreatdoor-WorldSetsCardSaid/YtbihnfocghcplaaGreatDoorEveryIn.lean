/- formula.every at the body of a loop that ranges over formula.nodes: every node comes, in order. -/
import Derived.Test.YtbihnfocghcplaaGreatDoorKinds
import Derived.RangeFuncNested
import Derived.RangeFuncBound
import Derived.RangeFuncCalls
import Derived.RangeFuncLeaves
import Derived.Shelf.Abstract
import Derived.Shelf.RegionOpen
import Derived.WalkKit
import Derived.OwnWalkIn
import Derived.TacticsInMore
import Derived.LoopNIn
import Derived.LoopIn
namespace Go.Proofs.YtbihnfocghcplaaGreatDoor
set_option linter.unusedVariables false
set_option linter.unusedSimpArgs false
open Go Go.RowKit Go.Shelf

attribute [local go_sem] Oper.semAt_some

/-- A formula's header that a round is handed. -/
structure Nd where
  op : Int
  name : ByteArray
  a : Option Addr
  n : Nat
  c : Nat
  hop : I64 op
  hname : name.size ≤ maxLen
  hn : n ≤ c
  hc : c ≤ maxLen
def Nd.val (x : Nd) : Value := .agg #[.int .i64 x.op, .string x.name, .slice x.a x.n x.c]
def Nd.key (x : Nd) : Int × ByteArray × Nat := (x.op, x.name, x.n)

mutual
/-- A formula's nodes, in order. -/
def keysT : Tree → List (Int × ByteArray × Nat)
  | .node op name ts => (op, name, ts.length) :: keysL ts
def keysL : List Tree → List (Int × ByteArray × Nat)
  | [] => []
  | t :: ts => keysT t ++ keysL ts
end

theorem keysL_append : ∀ (l m : List Tree), keysL (l ++ m) = keysL l ++ keysL m
  | [], m => by simp [keysL]
  | t :: l, m => by simp only [List.cons_append, keysL, keysL_append l m, List.append_assoc]
theorem keysL_take (l : List Tree) (k : Nat) (h : k < l.length) : keysL (l.take (k + 1)) = keysL (l.take k) ++ keysT l[k] := by
  rw [take_snoc' l k h, keysL_append]
  simp [keysL]
theorem keysT_len : ∀ t : Tree, (keysT t).length = t.nodes := Tree.ind fun op name ts ih => by
  have : ∀ l : List Tree, (∀ t ∈ l, (keysT t).length = t.nodes) → (keysL l).length = nodesL l := by
    intro l
    induction l with
    | nil => intro _; simp [keysL, nodesL]
    | cons t l ih2 =>
      intro h
      simp only [keysL, nodesL, List.length_append, h t (by simp), ih2 fun x hx => h x (by simp [hx])]
  simp only [keysT, Tree.nodes, List.length_cons, this ts ih]
  omega

theorem room_of_wide (k : Nat) : Fence.wide.room k := fun d h => by cases h
theorem roundIn_any {m m' : Nat} {P : Program} {l : Nat} {f : FuncId} {tmps : Array Value} {assign body : Code} {w : World} {R : Ending → World → Prop}
    (h : RoundIn Fence.wide m P l f tmps assign body w R) : RoundIn Fence.wide m' P l f tmps assign body w R := ⟨h.1, fun c cs _ => h.2 c cs (room_of_wide _)⟩
theorem yieldAt_any {m : Nat} (m' : Nat) {P : Program} {l : Nat} {args : Array Value} {W : World} {R : Ending → World → Prop} (h : YieldAt Fence.wide m P l args W R) : YieldAt Fence.wide m' P l args W R := by
  obtain ⟨fn, tmps, assign, body, hy, hR⟩ := h
  exact ⟨fn, tmps, assign, body, hy, roundIn_any hR⟩

/-- Every block of cells lies as it lay. -/
def CK (A B : World) : Prop := A.heap.size ≤ B.heap.size ∧ ∀ (k : Nat) (o : Obj), A.heap[k]? = some o → o.isCells = true → B.heap[k]? = some o
theorem CK.refl (A : World) : CK A A := ⟨Nat.le_refl _, fun _ _ h _ => h⟩
theorem CK.trans {A B C : World} (h : CK A B) (k : CK B C) : CK A C := ⟨Nat.le_trans h.1 k.1, fun i o hi ho => k.2 i o (h.2 i o hi ho) ho⟩
theorem CK.of_below {A B : World} (h : Below A.heap.size A B) : CK A B := ⟨h.size, fun k o hk _ => (h.block k (lt_of_block hk)).trans hk⟩
theorem CK.alloc (A : World) (o : Obj) : CK A (A.alloc o) := CK.of_below ((Below.refl _ _).alloc (Nat.le_refl _) o)
theorem CK.of_grown {A B : World} {b : Nat} {o : Obj} (h : A.grownBy B (some b)) (hb : A.heap[b]? = some o) (ho : o.isCells = false) : CK A B :=
  ⟨h.size, fun k o' hk hc => (h.block k (lt_of_block hk) (fun e => by
    obtain rfl : k = b := by injection e
    rw [hb] at hk
    obtain rfl : o = o' := by injection hk
    rw [ho] at hc
    cases hc)).trans hk⟩
theorem CK.putObj {A : World} {l : Nat} {o : Obj} (o' : Obj) (h : A.heap[l]? = some o) (ho : o.isCells = false) : CK A (A.putObj l o') := CK.of_grown (grownBy_putObj' A l o') h ho
theorem CK.cell {A B : World} (h : CK A B) {p : Addr} {v : Value} (hc : A.cell? p = some v) : B.cell? p = some v := by
  unfold World.cell? at hc
  split at hc
  · rename_i c t f hh
    unfold World.cell?
    rw [h.2 _ _ hh rfl]
    exact hc
  · cases hc
theorem CK.form {A B : World} (h : CK A B) {S : Nat → Prop} {v : Value} {t : Tree} (hf : FormIn A S v t) : FormIn B S v t := by
  induction hf with
  | node op name a cap ts b off o s v hop hname hlen hcap ha hc hs ih =>
    exact .node op name a cap ts b off o s v hop hname hlen hcap ha (fun i hi => ⟨h.cell (hc i hi).1, h.cell (hc i hi).2.1, h.cell (hc i hi).2.2⟩) ih

theorem CK.forms {A B : World} (h : CK A B) {S : Nat → Prop} {a : Option Addr} {ts : List Tree} (hf : FormsIn A S a ts) : FormsIn B S a ts := by
  obtain ⟨b, off, ha, hc⟩ := hf
  refine ⟨b, off, ha, fun i hi => ?_⟩
  obtain ⟨a', c', h0, h1, h2, h3⟩ := hc i hi
  exact ⟨a', c', h.cell h0, h.cell h1, h.cell h2, h.form h3⟩

/-- What a call of every leaves. -/
def EPost (J Jx : List Nd → World → Prop) (pre : List Nd) (ks : List (Int × ByteArray × Nat)) (W : World) (e : Ending) (W' : World) : Prop :=
  (e = .returned (.bool true) ∧ ∃ ys : List Nd, ys.map Nd.key = ks ∧ J (pre ++ ys) W' ∧ CK W W') ∨ (e = .returned (.bool false) ∧ ∃ q, Jx q W')

set_option maxRecDepth 100000 in
set_option maxHeartbeats 2000000 in
theorem every_in (l N : Nat) (J Jx : List Nd → World → Prop) (hJA : ∀ pre W o, J pre W → J pre (W.alloc o))
    (hY : ∀ m pre (x : Nd) W, J pre W → pre.length < N → YieldAt Fence.wide m Tryz.prog l #[x.val] W fun e W' =>
      (e = .returned (.bool true) ∧ J (pre ++ [x]) W' ∧ CK W W') ∨ (e = .returned (.bool false) ∧ Jx (pre ++ [x]) W')) :
    ∀ (t : Tree) (n : Nat) (v : Value) (pre : List Nd) (W : World), FormAt W none v t → J pre W → pre.length + t.nodes ≤ N →
      CallsIn Fence.wide n Tryz.prog 87 #[v, .func (.yield l) #[] #[]] W (EPost J Jx pre (keysT t) W) := by
  refine Tree.ind fun op name ts ih n v pre W hv hJ hN => ?_
  have HN : Hid ((Tree.node op name ts).nodes = 1 + nodesL ts) := by show _ = _; simp [Tree.nodes]
  have HK : Hid (keysT (.node op name ts) = (op, name, ts.length) :: keysL ts) := by show _ = _; simp [keysT]
  have hN' : pre.length + (1 + nodesL ts) ≤ N := by rw [← HN.out]; exact hN
  obtain ⟨a, cap, b, off, rfl, hop, hname, hlen, hcap, -, -⟩ := hv.form
  have HC := hidIt hv.forms
  simp only [Tree.op_node, Tree.name_node, Tree.args_node] at *
  have IH := hidIt ih
  have HNL := hidIt hN'
  have HBX : Hid (CK W (W.alloc (.cells #[.int .i64 op, .string name, .slice a ts.length cap] 24))) := CK.alloc _ _
  have HX : Hid ((W.alloc (.cells #[.int .i64 op, .string name, .slice a ts.length cap] 24)).heap[W.heap.size]? = some (.cells #[.int .i64 op, .string name, .slice a ts.length cap] 24 (0, 0))) := heap_alloc_new W _
  obtain ⟨x, hx⟩ : ∃ x : Nd, x = ⟨op, name, a, ts.length, cap, hop, hname, hlen, hcap⟩ := ⟨_, rfl⟩
  have hxv : x.val = .agg #[.int .i64 op, .string name, .slice a ts.length cap] := by rw [hx]; rfl
  have HXK : Hid (x.key = (op, name, ts.length)) := by show _ = _; rw [hx]; rfl
  obtain ⟨fn, tmps, assign, body, hy, hR⟩ := hY (n - 1) pre x _ (hJA pre W (.cells #[.int .i64 op, .string name, .slice a ts.length cap] 24) hJ) (by omega)
  rw [hxv] at hy
  have HR := hidIt hR
  have HYY := hidIt hY
  have HJA := hidIt hJA
  have hcap2 := hcap
  unfold maxLen at hcap2
  clear ih hN hN' hv hR hY hJA hx hxv
  refine callsIn_of_wp Tryz.func87 rfl trivial ?_ rfl
  simp only [Tryz.ntmps87, List.size_toArray, List.length_cons, List.length_nil, Nat.reduceAdd, Nat.reduceSub, Array.replicate_succ, Array.replicate_zero, List.push_toArray, List.append_toArray, List.nil_append, List.cons_append]
  gi_wp2
  refine ⟨fun h => (by cases h), HR.out.mono ?_⟩
  rintro e W1 (⟨rfl, hJ1, hb1⟩ | ⟨rfl, hx⟩)
  · have HJ1 := hidIt hJ1
    have HB1 := hidIt (HBX.out.trans hb1)
    obtain ⟨p0, p1, p2⟩ := cell_of3 (hb1.2 _ _ HX.out rfl)
    clear hy hJ1 hb1 HR HBX HX
    gi_wp2
    gi_loopw [14] (fun i wr => ∃ k : Nat, k ≤ ts.length ∧ i = .int .i64 k ∧ Hid (∃ ys : List Nd, ys.map Nd.key = (op, name, ts.length) :: keysL (ts.take k) ∧ J (pre ++ ys) wr) ∧ Hid (CK W wr)) (fun i _ => ts.length - (intOf i).toNat)
    case atStart => exact ⟨0, Nat.zero_le _, rfl, ⟨[x], by simp [keysL, HXK.out], HJ1.out⟩, HB1.out⟩
    case round =>
      obtain ⟨k, hk, rfl, hys, hbel⟩ := hrel
      by_cases hlt : k < ts.length
      · obtain ⟨b', off', a', c', rfl, c0, c1, c2, hf⟩ := (hbel.out.forms HC.out).at k hlt
        obtain ⟨ys, hyk, hJy⟩ := hys.out
        have hlen2 : (pre ++ ys).length + ts[k].nodes ≤ N := by
          have h1 := congrArg List.length hyk
          have h2 : (keysL (ts.take k)).length + ts[k].nodes ≤ nodesL ts := by
            have h3 := congrArg List.length (keysL_take ts k hlt)
            rw [List.length_append, keysT_len] at h3
            have h4 : ∀ l : List Tree, (keysL l).length = nodesL l := by
              intro l
              induction l with
              | nil => simp [keysL, nodesL]
              | cons t l ih2 => simp only [keysL, nodesL, List.length_append, keysT_len, ih2]
            have h5 := nodesL_take_le ts (k + 1)
            rw [h4] at h3
            omega
          have h6 := HNL.out
          rw [List.length_map, List.length_cons] at h1
          rw [List.length_append]
          omega
        have HS := hidIt (keysL_take ts k hlt)
        have hm : ts[k] ∈ ts := List.getElem_mem hlt
        have HCALL := hidIt (IH.out ts[k] hm (n - 1) _ (pre ++ ys) _ ((CK.alloc wr _).form hf) (HJA.out _ wr (.cells #[.int .i64 ts[k].op, .string ts[k].name, .slice a' ts[k].args.length c'] 24) hJy) hlen2)
        have HYK := hidIt hyk
        have hlt0 : (k : Int) < (ts.length : Int) := by omega
        clear hyk hJy hys hf hm hlen2
        generalize ts[k] = t at *
        gi_wp2_with fail
        refine ⟨trivial, fun h => (by cases h), HCALL.out.mono ?_⟩
        rintro e W2 (⟨rfl, ys2, hk2, hJ2, hb2⟩ | ⟨rfl, q, hx⟩)
        · have HB2 : Hid (CK W W2) := hbel.out.trans ((CK.alloc wr _).trans hb2)
          have HY2 : Hid (∃ ys : List Nd, ys.map Nd.key = (op, name, ts.length) :: keysL (ts.take (k + 1)) ∧ J (pre ++ ys) W2) := ⟨ys ++ ys2, by rw [List.map_append, HYK.out, hk2, HS.out, List.cons_append], by rw [← List.append_assoc]; exact hJ2⟩
          clear hk2 hJ2 hb2
          gi_wp2_with fail
          go_roundw
          case rel => exact ⟨k + 1, by omega, by go_num, HY2, HB2⟩
          case measure => simp [intOf]; omega
        · have HXX := hidIt hx
          clear hx
          gi_wp2_with fail
          go_ret
          exact .inr ⟨rfl, _, HXX.out⟩
      · have hkn : k = ts.length := by omega
        obtain ⟨ys, hyk, hJy⟩ := hys.out
        have HYK : Hid (ys.map Nd.key = keysT (.node op name ts)) := by show _ = _; rw [hyk, HK.out, List.take_of_length_le (by omega)]
        have HJY := hidIt hJy
        clear hyk hJy hys
        gi_wp2_with fail
        go_ret
        exact .inl ⟨rfl, ys, HYK.out, HJY.out, hbel.out⟩
  · have HXX := hidIt hx
    clear hy hx
    gi_wp2
    go_ret
    exact .inr ⟨rfl, _, HXX.out⟩
end Go.Proofs.YtbihnfocghcplaaGreatDoor
