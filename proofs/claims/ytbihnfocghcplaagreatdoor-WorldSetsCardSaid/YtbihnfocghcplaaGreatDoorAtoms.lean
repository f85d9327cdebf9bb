/- formula.Atoms: the names of the atoms, ascending, each once. -/
import Derived.Test.YtbihnfocghcplaaGreatDoorEveryIn
import Derived.Test.YtbihnfocghcplaaGreatDoorIter
import Derived.Test.YtbihnfocghcplaaGreatDoorSubst2
import Derived.RangeFuncWrites
import Derived.Maps.OwnIn
namespace Go.Proofs.YtbihnfocghcplaaGreatDoor
set_option linter.unusedVariables false
set_option linter.unusedSimpArgs false
open Go Go.RowKit Go.Shelf

attribute [local go_sem] Oper.semAt_some

/-- The names of those nodes that count as atoms. -/
def atomKs (ks : List (Int × ByteArray × Nat)) : List ByteArray := (ks.filter fun k => decide (k.1 = 3) && decide (k.2.2 = 0)).map fun k => k.2.1
/-- A formula's atoms. -/
def atomsT (t : Tree) : List ByteArray := ascOf (atomKs (keysT t))

theorem atomKs_snoc (ks : List (Int × ByteArray × Nat)) (k : Int × ByteArray × Nat) : atomKs (ks ++ [k]) = if k.1 = 3 ∧ k.2.2 = 0 then atomKs ks ++ [k.2.1] else atomKs ks := by
  unfold atomKs
  rw [List.filter_append, List.map_append]
  by_cases h : k.1 = 3 ∧ k.2.2 = 0
  · rw [if_pos h, List.filter_cons_of_pos (by simp [h.1, h.2])]
    rfl
  · rw [if_neg h, List.filter_cons_of_neg (by simpa using h)]
    simp

theorem atomKs_len (ks : List (Int × ByteArray × Nat)) : (atomKs ks).length ≤ ks.length := by
  unfold atomKs
  rw [List.length_map]
  exact List.length_filter_le _ _

set_option maxHeartbeats 1000000 in
/-- The iterator. -/
theorem nodes1_in (n : Nat) (l Bf : Nat) (t : Tree) (v : Value) (J Jx : List Nd → World → Prop) (hJA : ∀ pre W o, J pre W → J pre (W.alloc o))
    (hY : ∀ pre (x : Nd) W, J pre W → pre.length < t.nodes → YieldAt Fence.wide (n - 1) Tryz.prog l #[x.val] W fun e W' =>
      (e = .returned (.bool true) ∧ J (pre ++ [x]) W' ∧ CK W W') ∨ (e = .returned (.bool false) ∧ Jx (pre ++ [x]) W'))
    {o : Int} {s : ByteArray} {a : Option Addr} {m c : Nat} (hv : v = .agg #[.int .i64 o, .string s, .slice a m c])
    (W : World) (hB : W.heap[Bf]? = some (.cells #[.int .i64 o, .string s, .slice a m c] 24 (0, 0))) (hT : FormAt W none v t) (h0 : J [] W) :
    CallsIn Fence.wide n Tryz.prog 86 #[.func (.yield l) #[] #[], .pointer (some ⟨Bf, 0, none⟩)] W fun e W' => (∃ v, e = .returned v) ∧
      ((∃ ys : List Nd, ys.map Nd.key = keysT t ∧ J ys W') ∨ (∃ pre : List Nd, True ∧ Jx pre W')) := by
  have hp := every_in l t.nodes J Jx hJA (fun m pre x W hj hl => yieldAt_any m (hY pre x W hj hl)) t (n - 1) v [] W hT h0 (by simp)
  subst hv
  obtain ⟨p0, p1, p2⟩ := cell_of3 hB
  have hlt := lt_of_block hB
  have HP := hidIt hp
  clear hp hY hJA hT hB
  refine callsIn_of_wp Tryz.func86 rfl trivial ?_ rfl
  simp only [Tryz.ntmps86, List.size_toArray, List.length_cons, List.length_nil, Nat.reduceAdd, Nat.reduceSub, Array.replicate_succ, Array.replicate_zero, List.push_toArray, List.append_toArray, List.nil_append, List.cons_append]
  gi_wp2_with fail
  refine ⟨trivial, fun h => (by cases h), HP.out.mono ?_⟩
  rintro e W1 (⟨rfl, ys, hys, hJ1, -⟩ | ⟨rfl, q, hx⟩)
  · gi_wp2_with fail
    go_end0
    exact ⟨⟨_, rfl⟩, .inl ⟨ys, hys, by simpa using hJ1⟩⟩
  · gi_wp2_with fail
    go_end0
    exact ⟨⟨_, rfl⟩, .inr ⟨q, trivial, hx⟩⟩

set_option maxHeartbeats 400000 in
theorem nodes_in (n : Nat) (w : World) {o : Int} {s : ByteArray} {a : Option Addr} {m c : Nat} :
    CallsIn Fence.wide n Tryz.prog 48 #[.agg #[.int .i64 o, .string s, .slice a m c]] w fun e w' => e = .returned (.func (.func 86) #[] #[.pointer (some ⟨w.heap.size, 0, none⟩)]) ∧ w' = w.alloc (.cells #[.int .i64 o, .string s, .slice a m c] 24) := by
  refine callsIn_of_wp Tryz.func48 rfl trivial ?_ rfl
  simp only [Tryz.ntmps48, List.size_toArray, List.length_cons, List.length_nil, Nat.reduceAdd, Nat.reduceSub, Array.replicate_succ, Array.replicate_zero, List.push_toArray, List.append_toArray, List.nil_append, List.cons_append]
  gi_wp2_with fail
  go_ret
  exact ⟨rfl, rfl⟩

theorem nodes_stops (n : Nat) (Bf : Nat) (t : Tree) {o : Int} {s : ByteArray} {a : Option Addr} {m c : Nat} (w : World) (hB : w.heap[Bf]? = some (.cells #[.int .i64 o, .string s, .slice a m c] 24 (0, 0)))
    (hT : FormAt w none (.agg #[.int .i64 o, .string s, .slice a m c]) t) :
    SeqStopsK Fence.wide n Tryz.prog 86 #[.pointer (some ⟨Bf, 0, none⟩)] (fun x : Nd => #[x.val]) CK (fun ys => ys.map Nd.key = keysT t) (fun _ => True) t.nodes w := fun l J Jx W hW hJ _ hY h0 =>
  nodes1_in n l Bf t _ J Jx (fun pre A o hj => hJ pre A (A.alloc o) none hj (World.grownBy_alloc A o none) (fun r e => by cases e)) hY rfl W (blk_kept hB hW) (hT.go hW) h0

theorem OwnS.base {w : World} {B B' : Nat} {v : Value} {l : List ByteArray} (h : OwnS w B v l) (hb : B' ≤ B) : OwnS w B' v l := ⟨ownsRow_base_a h.1 hb, h.2⟩

/-- What the loop of Atoms keeps: the map of names. -/
def AtomI (w : World) (B0 p bm : Nat) (pre : List Nd) (W : World) : Prop :=
  W.heap[p]? = some (.cells #[.map (some bm)] 66 (0, 0)) ∧ SetAt W bm (atomKs (pre.map Nd.key)) ∧ Below w.heap.size w W ∧ B0 ≤ W.heap.size

theorem AtomI.own {w : World} {p bm B B0 : Nat} (hw : w.heap.size ≤ B) (hb : bm < B) : OwnFrom B (AtomI w B0 p bm) := by
  rintro s A A' row ⟨h1, h2, h3, h4⟩ hg hr
  have hp : row ≠ some p := fun e => by
    obtain ⟨-, o, ho, hc⟩ := hr p e
    rw [h1] at ho
    injection ho with ho
    subst ho
    cases hc
  refine ⟨?_, h2.kept hg (fun e => by have := (hr _ e).1; omega), h3.grown hg h3.size (fun k e => Nat.le_trans hw (hr k e).1), Nat.le_trans h4 hg.size⟩
  rw [hg.block p (lt_of_block h1) (fun e => hp e.symm)]
  exact h1

/-- A round's box. -/
def AtomX (B : Nat) (tm : Nat → Value → Array Value) (x : Nd) (a : Act) (W : World) : Prop :=
  ∃ q, B ≤ q ∧ W.heap[q]? = some (.cells #[.int .i64 x.op, .string x.name, .slice x.a x.n x.c] 24 (0, 0)) ∧ a = { tmps := tm q x.val, defers := [] }

theorem AtomX.own {B : Nat} {tm : Nat → Value → Array Value} (x : Nd) (a : Act) : OwnFrom B (fun (_ : Unit) W => AtomX B tm x a W) := by
  rintro s A A' row ⟨q, h1, h2, h3⟩ hg hr
  refine ⟨q, h1, ?_, h3⟩
  rw [hg.block q (lt_of_block h2) (fun e => ?_)]
  · exact h2
  · obtain ⟨-, o, ho, hc⟩ := hr q e.symm
    rw [h2] at ho
    injection ho with ho
    subst ho
    cases hc

set_option maxHeartbeats 400000 in
theorem isAtom_nd (op : Int) (name : ByteArray) (a : Option Addr) (n cap : Nat) (hcap : cap ≤ maxLen) (w : World) :
    Calls Tryz.prog 49 #[.agg #[.int .i64 op, .string name, .slice a n cap]] w fun e w' => e = .returned (.bool (decide (op = 3) && decide (n = 0))) ∧ Below w.heap.size w w' := by
  unfold maxLen at hcap
  have HB : Hid (Below w.heap.size w (w.alloc (.cells #[.int .i64 op, .string name, .slice a n cap] 24))) := Grows.alloc _ _
  by_cases ho : op = 3
  · subst ho
    by_cases hl : n = 0
    · subst hl
      go_enter Tryz.func49, Tryz.ntmps49
      go_wp2_with fail
      go_ret
      exact ⟨rfl, HB.out⟩
    · have hz : (((n : Int) == 0) : Bool) = false := by simp; omega
      go_enter Tryz.func49, Tryz.ntmps49
      go_wp2_with fail
      go_ret
      exact ⟨ret_bool (by simp [hl]), HB.out⟩
  · have hz : ((op == 3) : Bool) = false := by simpa using ho
    go_enter Tryz.func49, Tryz.ntmps49
    go_wp2_with fail
    go_ret
    exact ⟨ret_bool (by simp [ho]), HB.out⟩

set_option maxRecDepth 100000 in
set_option maxHeartbeats 2000000 in
theorem atoms_any (t : Tree) (hn : t.nodes ≤ 1000000) (v : Value) (w : World) (h : FormAt w none v t) :
    Calls Tryz.prog 12 #[v] w fun e w' => ∃ u : Value, e = .returned u ∧ OwnS w' w.heap.size u (atomsT t) ∧ Below w.heap.size w w' := by
  obtain ⟨a, cap, b, off, rfl, hop, hname, hlen, hcap, -, -⟩ := h.form
  have H := hidIt h
  have hmm := @run_makeMap Tryz.prog
  have HN := hidIt hn
  clear h hn
  refine (callsIn_wide (n := 8)).1 ?_
  refine callsIn_of_wp_marks Tryz.func12 rfl trivial ?_ rfl
  simp only [Tryz.ntmps12, List.size_toArray, List.length_cons, List.length_nil, Nat.reduceAdd, Nat.reduceSub, Array.replicate_succ, Array.replicate_zero, List.push_toArray, List.append_toArray, List.nil_append, List.cons_append]
  gi_wp2_with fail
  refine ⟨trivial, (nodes_in 7 _).mono ?_⟩
  rintro e w' ⟨rfl, rfl⟩
  gi_wp2_with fail
  have hB0 : Below w.heap.size w ((((w.alloc (.cells #[.int .i64 t.op, .string t.name, .slice a t.args.length cap] 24)).alloc (.map #[] 0)).alloc (.cells #[.map (some (w.heap.size + 1))] 66)).alloc (.cells #[.int .i64 t.op, .string t.name, .slice a t.args.length cap] 24)) :=
    ((((Below.refl _ _).alloc (Nat.le_refl _) _).alloc (by simp) _).alloc (by simp; omega) _).alloc (by simp; omega) _
  have hsz : ((((w.alloc (.cells #[.int .i64 t.op, .string t.name, .slice a t.args.length cap] 24)).alloc (.map #[] 0)).alloc (.cells #[.map (some (w.heap.size + 1))] 66)).alloc (.cells #[.int .i64 t.op, .string t.name, .slice a t.args.length cap] 24)).heap.size = w.heap.size + 4 := by simp
  have hbf := heap_alloc_at (w := ((w.alloc (.cells #[.int .i64 t.op, .string t.name, .slice a t.args.length cap] 24)).alloc (.map #[] 0)).alloc (.cells #[.map (some (w.heap.size + 1))] 66)) (o := .cells #[.int .i64 t.op, .string t.name, .slice a t.args.length cap] 24) (n := w.heap.size + 3) (by simp)
  have hbp : ((((w.alloc (.cells #[.int .i64 t.op, .string t.name, .slice a t.args.length cap] 24)).alloc (.map #[] 0)).alloc (.cells #[.map (some (w.heap.size + 1))] 66)).alloc (.cells #[.int .i64 t.op, .string t.name, .slice a t.args.length cap] 24)).heap[w.heap.size + 2]? = some (.cells #[.map (some (w.heap.size + 1))] 66 (0, 0)) :=
    blk_kept (heap_alloc_at (by simp)) (Grows.alloc _ _)
  have hset : SetAt ((((w.alloc (.cells #[.int .i64 t.op, .string t.name, .slice a t.args.length cap] 24)).alloc (.map #[] 0)).alloc (.cells #[.map (some (w.heap.size + 1))] 66)).alloc (.cells #[.int .i64 t.op, .string t.name, .slice a t.args.length cap] 24)) (w.heap.size + 1) [] := by
    have h1 := SetAt.made (w.alloc (.cells #[.int .i64 t.op, .string t.name, .slice a t.args.length cap] 24))
    have h2 : (w.alloc (.cells #[.int .i64 t.op, .string t.name, .slice a t.args.length cap] 24)).heap.size = w.heap.size + 1 := by simp
    rw [h2] at h1
    exact (h1.go (Grows.alloc _ _)).go (Grows.alloc _ _)
  have e1 : w.heap.size + 1 + 1 = w.heap.size + 2 := rfl
  have e2 : w.heap.size + 1 + 1 + 1 = w.heap.size + 3 := rfl
  rw [e2, e1]
  clear e1 e2
  have HF0 := hidIt (H.out.go hB0)
  generalize ((((w.alloc (.cells #[.int .i64 t.op, .string t.name, .slice a t.args.length cap] 24)).alloc (.map #[] 0)).alloc (.cells #[.map (some (w.heap.size + 1))] 66)).alloc (.cells #[.int .i64 t.op, .string t.name, .slice a t.args.length cap] 24)) = W0 at *
  refine wpIn_rangeFunc_ownH rfl (by omega) (gf := 86) (lb := #[.pointer (some ⟨w.heap.size + 3, 0, none⟩)]) rfl trivial (enters_of Tryz.func86 (by kernel_rfl) rfl)
    (nodes_stops 7 (w.heap.size + 3) t W0 hbf HF0.out) CK.trans (fun W l o o' _ hl ho _ => CK.putObj o' hl ho) (Below.refl _ _) (fun _ => rfl)
    (AtomI w W0.heap.size (w.heap.size + 2) (w.heap.size + 1)) (fun _ _ _ => False) (AtomI.own (by omega) (by omega)) (fun _ _ _ _ _ hs _ _ => hs) ⟨hbp, hset, hB0, Nat.le_refl _⟩
    (AtomX W0.heap.size fun q xv => #[.agg #[.int .i64 t.op, .string t.name, .slice a t.args.length cap], .pointer (some ⟨w.heap.size, 0, none⟩), .slice none 0 0, .pointer (some ⟨w.heap.size + 2, 0, none⟩), .pointer (some ⟨q, 0, none⟩), .map (some (w.heap.size + 1)),
      .agg #[.int .i64 t.op, .string t.name, .slice a t.args.length cap], .func (.func 86) #[] #[.pointer (some ⟨w.heap.size + 3, 0, none⟩)], xv, undef, undef, undef, undef, undef, undef, undef, undef]) (AtomX.own) ?assign ?body ?done ?stop
  case assign =>
    rintro l pre x W K ⟨i1, i2, i3, i4⟩ hK
    have hxv : x.val = .agg #[.int .i64 x.op, .string x.name, .slice x.a x.n x.c] := rfl
    rw [hxv]
    gi_wp2_with fail
    refine hK _ _ ((KeepsOthers.alloc _ _).from _) (CK.alloc _ _) ⟨blk_kept i1 (Grows.alloc _ _), i2.go (Grows.alloc _ _), i3.alloc i3.size _, by simp; omega⟩ ⟨W.heap.size, i4, heap_alloc_new W _, rfl⟩
  case body =>
    rintro l pre x a' W hl ⟨r, hr⟩ ⟨i1, i2, i3, i4⟩ ⟨q, hq1, hq2, rfl⟩ hlt
    obtain ⟨c0, c1, c2⟩ := cell_of3 hq2
    have d0 := cell_of1 i1
    have hatom := isAtom_nd x.op x.name x.a x.n x.c x.hc W
    have HI2 := hidIt i2
    have HI3 := hidIt i3
    have HQ2 := hidIt hq2
    have HI1 := hidIt i1
    have HLEN : Hid ((atomKs (pre.map Nd.key)).length ≤ 1000000) := by
      have h1 := atomKs_len (pre.map Nd.key)
      have h2 := HN.out
      rw [List.length_map] at h1
      show _ ≤ _
      omega
    have HS : Hid (atomKs ((pre ++ [x]).map Nd.key) = if x.op = 3 ∧ x.n = 0 then atomKs (pre.map Nd.key) ++ [x.name] else atomKs (pre.map Nd.key)) := by
      show _ = _
      rw [List.map_append, List.map_singleton, atomKs_snoc]
      rfl
    have HBM : Hid (w.heap.size + 1 < W0.heap.size) := by show _ < _; omega
    clear hB0 hbf hbp hset i1 i2 i3 hq2 hlt hr
    by_cases ht : x.op = 3 ∧ x.n = 0
    · rw [if_pos ht] at HS
      have hE : (decide (x.op = 3) && decide (x.n = 0)) = true := by simp [ht.1, ht.2]
      rw [hE] at hatom
      have HAT := hidIt hatom
      have HNM := hidIt x.hname
      clear hatom hE ht
      gi_wp2_with fail
      refine ⟨trivial, (CallsIn.inRound l (callsIn_wide.2 HAT.out)).mono ?_⟩
      rintro e W1 ⟨rfl, hb1⟩
      clear c0 c1 c2 d0
      obtain ⟨c0, c1, c2⟩ := cell_of3 (blk_kept HQ2.out hb1)
      have d0 := cell_of1 (blk_kept HI1.out hb1)
      obtain ⟨w3, hrun, hset3, hg3⟩ := (HI2.out.go hb1).put x.name HNM.out (by have := HLEN.out; omega)
      have HSET3 := hidIt hset3
      have HG3 := hidIt hg3
      have HB1 := hidIt hb1
      clear hset3 hg3 hb1
      gi_wp2_with fail
      obtain ⟨es, ck, hh, -⟩ := (HI2.out.go HB1.out).choose_spec.2
      refine ⟨(KeepsFrom.of_grownBy (only_of_below HB1.out none) (fun j e => by cases e)).trans (KeepsFrom.of_grownBy HG3.out (fun j e => by injection e with e; rw [← e]; exact HBM.out)), (CK.of_below HB1.out).trans (CK.of_grown HG3.out hh rfl), ?_, by rw [HS.out]; exact HSET3.out, ?_, Nat.le_trans i4 (Nat.le_trans HB1.out.size HG3.out.size)⟩
      · rw [HG3.out.block _ (lt_of_block (blk_kept HI1.out HB1.out)) (fun e => by injection e with e; omega)]
        exact blk_kept HI1.out HB1.out
      · exact (HI3.out.trans (Below.mono HB1.out HI3.out.size)).grown HG3.out (Nat.le_trans HI3.out.size HB1.out.size) (fun k e => by injection e with e; omega)
    · rw [if_neg ht] at HS
      have hE : (decide (x.op = 3) && decide (x.n = 0)) = false := by
        rw [Bool.and_eq_false_iff, decide_eq_false_iff_not, decide_eq_false_iff_not]
        by_cases h1 : x.op = 3
        · exact .inr fun h2 => ht ⟨h1, h2⟩
        · exact .inl h1
      rw [hE] at hatom
      have HAT := hidIt hatom
      clear hatom hE ht
      gi_wp2_with fail
      refine ⟨trivial, (CallsIn.inRound l (callsIn_wide.2 HAT.out)).mono ?_⟩
      rintro e W1 ⟨rfl, hb1⟩
      have HB1 := hidIt hb1
      clear hb1
      gi_wp2_with fail
      exact ⟨KeepsFrom.of_grownBy (only_of_below HB1.out none) (fun j e => by cases e), CK.of_below HB1.out, blk_kept HI1.out HB1.out, by rw [HS.out]; exact HI2.out.go HB1.out, HI3.out.trans (Below.mono HB1.out HI3.out.size), Nat.le_trans i4 HB1.out.size⟩
  case done =>
    rintro D ys W hD hys ⟨i1, i2, i3, i4⟩ hK
    have d0 := cell_of1 i1
    have HI2 := hidIt i2
    have HI3 := hidIt i3
    have HI1 := hidIt i1
    have HE : Hid (atomsT t = ascOf (atomKs (ys.map Nd.key))) := by show _ = _; rw [hys]; rfl
    have HLEN : Hid ((atomKs (ys.map Nd.key)).length ≤ 1000000) := by
      have h1 := atomKs_len (ys.map Nd.key)
      have h2 := HN.out
      show _ ≤ _
      rw [hys, keysT_len] at h1
      rw [hys]
      omega
    have HNS : Hid (∀ s ∈ atomKs (ys.map Nd.key), s.size ≤ maxLen) := by
      intro s hs
      unfold atomKs at hs
      obtain ⟨k, hk, rfl⟩ := List.mem_map.1 hs
      obtain ⟨y, -, rfl⟩ := List.mem_map.1 (List.mem_filter.1 hk).1
      exact y.hname
    have HDD := hidIt hK
    clear hB0 hbf hbp hset i1 i2 i3 hys hK
    gi_wp2_with fail
    refine ⟨trivial, (callsIn_wide.2 (keys_any (some (w.heap.size + 1)) W)).mono ?_⟩
    rintro e w' ⟨rfl, rfl⟩
    gi_wp2_with fail
    refine ⟨trivial, (callsIn_wide.2 (sorted_any (w.heap.size + 1) _ HNS.out HLEN.out W HI2.out)).mono ?_⟩
    rintro e w' ⟨u, rfl, hown, hb⟩
    have HOWN := hidIt hown
    have HBB := hidIt hb
    clear hown hb
    gi_wp2_with fail
    have hD1 : D < W.heap.size := lt_of_block HDD.out
    have hK1 : w'.heap[D]? = some (.deferred (some [])) := blk_kept (blk_kept HDD.out (Grows.alloc W (.cells #[.map (some (w.heap.size + 1))] 66))) HBB.out
    have hbl : Below w.heap.size w w' := (HI3.out.alloc HI3.out.size _).trans (Below.mono HBB.out (by have := HI3.out.size; simp; omega))
    refine ⟨by simp, .inl ⟨_, _, rfl, run_takeDeferred hK1, ?_⟩⟩
    refine ⟨_, results_tmp rfl _ _ _, _, rfl, ?_, hbl.trans (belowK_b (w := w) (Nat.le_refl _) w' D _ _ (by omega) hK1 rfl rfl)⟩
    rw [HE.out]
    exact (HOWN.out.kept (grownBy_putObj' w' D _) (fun g e => by injection e with e; simp; omega)).base (by have := HI3.out.size; simp; omega)
  case stop =>
    rintro D c pre W _ _ h _
    exact h.elim
end Go.Proofs.YtbihnfocghcplaaGreatDoor
