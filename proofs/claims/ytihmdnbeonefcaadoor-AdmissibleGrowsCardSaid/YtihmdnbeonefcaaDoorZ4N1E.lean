/- The program's read: the graph's rows and the set, as bits. -/
import Derived.Test.YtihmdnbeonefcaaDoorZ4N1D
import Derived.BigRegion
import Derived.Deep.MidRow
import Derived.Deep.WholeRow

namespace Go.Proofs.YtihmdnbeonefcaaDoor
set_option linter.unusedVariables false
set_option linter.unusedSimpArgs false
open Go Go.RowKit Go.Sort

/-- The rows of a graph: a word of nodes, and a word for each node. -/
def aRow (n : BitVec 64) (f : Nat → BitVec 64) : Array Value := (bv n :: (List.range 40).map fun i => bv (f i)).toArray
theorem aRow_size (n : BitVec 64) (f : Nat → BitVec 64) : (aRow n f).size = 41 := by simp [aRow]
def AtW (w : World) (P : Nat) (n : BitVec 64) (f : Nat → BitVec 64) : Prop := w.heap[P]? = some (.cells (aRow n f) 57 (0, 0))
theorem AtW.go {w w' : World} {P : Nat} {n : BitVec 64} {f : Nat → BitVec 64} (h : AtW w P n f) (hb : Below w.heap.size w w') : AtW w' P n f := blk_kept2 h hb
theorem AtW.atk {w : World} {P N : Nat} {f : Nat → BitVec 64} (h : AtW w P (bOf N allX) f) : AtkAt w P N f := h
theorem AtW.nodes {w : World} {P : Nat} {n : BitVec 64} {f : Nat → BitVec 64} (h : AtW w P n f) : w.cell? ⟨P, 0, none⟩ = some (bv n) := by
  unfold AtW at h
  simp [World.cell?, h, aRow]
theorem AtW.by_ {w : World} {P : Nat} {n : BitVec 64} {f : Nat → BitVec 64} (h : AtW w P n f) {i : Nat} (hi : i < 40) : w.cell? ⟨P, 1 + i, none⟩ = some (bv (f i)) := by
  unfold AtW at h
  rw [Nat.add_comm]
  simp [World.cell?, h, aRow, hi]
theorem aRow_set0 (n m : BitVec 64) (f : Nat → BitVec 64) : (aRow n f).setIfInBounds 0 (bv m) = aRow m f := rfl
theorem aRow_set (n : BitVec 64) (f : Nat → BitVec 64) (i : Nat) (S : BitVec 64) : (aRow n f).setIfInBounds (1 + i) (bv S) = aRow n (updB f i S) := by
  apply Array.ext_getElem?
  intro j
  rw [Array.getElem?_setIfInBounds, aRow_size]
  unfold aRow updB
  cases j with
  | zero =>
    rw [if_neg (by omega)]; rfl
  | succ j =>
    by_cases e : 1 + i = j + 1
    · obtain rfl : i = j := by omega
      rw [if_pos e]
      by_cases hj : i < 40
      · rw [if_pos (by omega)]; simp [hj]
      · rw [if_neg (by omega)]; simp [hj]
    · rw [if_neg e]
      have e' : ¬ j = i := by omega
      by_cases hj : j < 40
      · simp [hj, e']
      · simp [hj]
theorem AtW.set0 {w : World} {P : Nat} {n : BitVec 64} {f : Nat → BitVec 64} (h : AtW w P n f) (m : BitVec 64) : AtW (w.setCell ⟨P, 0, none⟩ (bv m)) P m f := by
  unfold AtW at *
  rw [set_cells h, aRow_set0]
theorem AtW.set {w : World} {P : Nat} {n : BitVec 64} {f : Nat → BitVec 64} (h : AtW w P n f) (i : Nat) (S : BitVec 64) : AtW (w.setCell ⟨P, 1 + i, none⟩ (bv S)) P n (updB f i S) := by
  unfold AtW at *
  rw [set_cells h, aRow_set]
theorem AtW.free {w : World} {P : Nat} {n : BitVec 64} {f : Nat → BitVec 64} (h : AtW w P n f) (i : Nat) : w.frozen? ⟨P, i, none⟩ = false := free_any h i
theorem infoAt : (Tryd.prog.info? 57).map (·.size) = some 41 := by kernel_rfl
theorem undAt : Tryd.prog.underlying 57 = some (.struct (Tryd.prog.underlying 57 |>.elim #[] fun | .struct fs => fs | _ => #[])) := by kernel_rfl
theorem aRow_zero : aRow 0#64 (fun _ => 0#64) = Array.replicate 41 (.int .u64 0) := by rfl
/-- The rows as a value. -/
theorem loadVar_at {w : World} {P : Nat} {n : BitVec 64} {f : Nat → BitVec 64} (h : AtW w P n f) : (loadVar 57 ⟨P, 0, none⟩).run Tryd.prog w = .ok (.agg (aRow n f)) w :=
  run_loadVar_row w P 57 57 (aRow n f) (0, 0) _ h undAt rfl (by rw [aRow_size]; exact infoAt)
theorem loadAt_at {w : World} {P : Nat} {n : BitVec 64} {f : Nat → BitVec 64} (h : AtW w P n f) : (Instr.loadAt 57 (.pointer (some ⟨P, 0, none⟩))).run Tryd.prog w = .ok (.agg (aRow n f)) w := by
  simp only [Instr.loadAt, Instr.sureAddr, Sem.run_bind, Sem.run_pure, Result.andThen_ok, loadVar_at h]
theorem aRow_one (n : BitVec 64) (f : Nat → BitVec 64) : (aRow n f).all (·.oneCell') = true := by
  rw [Array.all_eq_true_iff_forall_mem]
  intro v hv
  unfold aRow at hv
  rw [List.mem_toArray, List.mem_cons, List.mem_map] at hv
  rcases hv with rfl | ⟨i, -, rfl⟩ <;> rfl
theorem storeAt_at {w : World} {P : Nat} {n n' : BitVec 64} {f f' : Nat → BitVec 64} (h : AtW w P n f) : ∃ w' : World, (Instr.storeAt 57 (.pointer (some ⟨P, 0, none⟩)) (.agg (aRow n' f'))).run Tryd.prog w = .ok () w' ∧ AtW w' P n' f' ∧ ∀ B, B ≤ P → Below B w w' := by
  have hs := run_storeVar_row (P := Tryd.prog) w P 57 57 (aRow n f) (aRow n' f') h (by rw [aRow_size]; exact infoAt) (by rw [aRow_size, aRow_size]) (aRow_one _ _)
  refine ⟨w.setRow P (aRow n' f'), by simp only [Instr.storeAt, Instr.sureAddr, Sem.run_bind, Sem.run_pure, Result.andThen_ok, hs], setRow_heap w P _ _ _ _ h, fun B hB => ⟨rfl, rfl, rfl, ?_, fun k hk => ?_⟩⟩
  · show w.heap.size ≤ (w.heap.modify P _).size
    rw [Array.size_modify]
    exact Nat.le_refl _
  · show (w.heap.modify P _)[k]? = _
    rw [Array.getElem?_modify, if_neg (by omega)]

theorem at_store57 {P : Program} {ops : Array Oper} {rest : List Oper} {o : Oper} {a : Act} {w : World} {Q : Exit → Act → World → Prop} {x y : Operand} (_ho : o.op = .store 57 x y) (h : wpList P ops Q (o :: rest) a w) : wpList P ops Q (o :: rest) a w := h
theorem at_load57 {P : Program} {ops : Array Oper} {rest : List Oper} {o : Oper} {a : Act} {w : World} {Q : Exit → Act → World → Prop} {x : Operand} (_ho : o.op = .load 57 x) (h : wpList P ops Q (o :: rest) a w) : wpList P ops Q (o :: rest) a w := h
theorem wpList_store_at {ops : Array Oper} {rest : List Oper} {o : Oper} {a : Act} {w : World} {Q : Exit → Act → World → Prop} (hgd : o.guard = none) (x y : Operand) (ho : o.op = .store 57 x y) (P : Nat) (hx : a.eval x = .pointer (some ⟨P, 0, none⟩)) (n : BitVec 64) (f : Nat → BitVec 64) (hy : a.eval y = .agg (aRow n f)) {n0 : BitVec 64} {f0 : Nat → BitVec 64} (hA : AtW w P n0 f0)
    (h : ∀ w', AtW w' P n f → (∀ B, B ≤ P → Below B w w') → wpList Tryd.prog ops Q rest (a.put o.dst undef) w') : wpList Tryd.prog ops Q (o :: rest) a w := by
  obtain ⟨w', hr, h1, h2⟩ := storeAt_at (n' := n) (f' := f) hA
  refine wpList_plain hgd fun K hK => ?_
  unfold Oper.wp execOp
  simp only [ho, hx, hy, hr, Sem.run_bind, Sem.run_pure, Result.andThen_ok]
  exact hK _ _ (h w' h1 h2)
theorem wpList_load_at {ops : Array Oper} {rest : List Oper} {o : Oper} {a : Act} {w : World} {Q : Exit → Act → World → Prop} (hgd : o.guard = none) (x : Operand) (ho : o.op = .load 57 x) (P : Nat) (hx : a.eval x = .pointer (some ⟨P, 0, none⟩)) {n : BitVec 64} {f : Nat → BitVec 64} (hA : AtW w P n f)
    (h : wpList Tryd.prog ops Q rest (a.put o.dst (.agg (aRow n f))) w) : wpList Tryd.prog ops Q (o :: rest) a w := by
  refine wpList_plain hgd fun K hK => ?_
  unfold Oper.wp execOp
  simp only [ho, hx, loadAt_at hA, Sem.run_bind, Sem.run_pure, Result.andThen_ok]
  exact hK _ _ h

set_option maxRecDepth 100000 in
set_option maxHeartbeats 4000000 in
theorem qRead_no (N : Nat) (v v2 : Value) (ps : List (Int × Int)) (x : List Int) (w : World) (h : PairsAt w v ps) (hok : GOk (N : Int) ps) (hpl : ps.length ≤ 100000) (hs : IL w v2 x) (hsl : x.length ≤ 100000) (hset : setB N x = false) :
    Calls Tryd.prog 48 #[.agg #[.int .i64 (N : Int), v], v2] w fun e w' => e = .returned (.tuple #[.agg (aRow 0#64 fun _ => 0#64), .int .u64 0, .bool false]) ∧ Below w.heap.size w w' := by
  have hB := bgrow w (.cells #[.int .i64 (N : Int), v] 27)
  have hV := qValid_any N v v2 ps x
  obtain ⟨a, c, rfl, hpc⟩ := h.pc
  obtain ⟨a2, c2, rfl, k2⟩ := hs.form
  have hX := heap_alloc_new w (.cells #[.int .i64 (N : Int), .slice a ps.length c] 27)
  have hg2 := bgrow (w.alloc (.cells #[.int .i64 (N : Int), .slice a ps.length c] 27)) (.cells (aRow 0#64 fun _ => 0#64) 57)
  have HA := hidIt (heap_alloc_new (w.alloc (.cells #[.int .i64 (N : Int), .slice a ps.length c] 27)) (.cells (aRow 0#64 fun _ => 0#64) 57))
  have HX := hidIt (blk_kept2 hX hg2)
  have HB := hidIt (hB.trans (Below.mono hg2 hB.size))
  have HV := hidIt (hV _ (h.below HB.out) hok (by omega) (hs.below HB.out) hsl)
  rw [hset] at HV
  clear h hs hB k2 hpl hpc hV hX hg2 hset
  go_enter Tryd.func48, Tryd.ntmps48
  go_upto_region 1 with (fail)
  change Hid (AtW _ _ 0#64 fun _ => 0#64) at HA
  generalize hw2 : ((w.alloc (.cells #[.int .i64 (N : Int), .slice a ps.length c] 27)).alloc (.cells (aRow 0#64 fun _ => 0#64) 57)) = w2 at *
  rw [show (.cells #[Value.int .u64 0, .int .u64 0, .int .u64 0, .int .u64 0, .int .u64 0, .int .u64 0, .int .u64 0, .int .u64 0, .int .u64 0, .int .u64 0, .int .u64 0, .int .u64 0, .int .u64 0, .int .u64 0, .int .u64 0, .int .u64 0, .int .u64 0, .int .u64 0, .int .u64 0, .int .u64 0, .int .u64 0, .int .u64 0, .int .u64 0, .int .u64 0, .int .u64 0, .int .u64 0, .int .u64 0, .int .u64 0, .int .u64 0, .int .u64 0, .int .u64 0, .int .u64 0, .int .u64 0, .int .u64 0, .int .u64 0, .int .u64 0, .int .u64 0, .int .u64 0, .int .u64 0, .int .u64 0, .int .u64 0] 57 : Obj) = .cells (aRow 0#64 fun _ => 0#64) 57 from rfl, hw2]
  have hsz1 : (w.alloc (.cells #[.int .i64 (N : Int), .slice a ps.length c] 27)).heap.size = w.heap.size + 1 := World.size_alloc ..
  rw [hsz1] at HA
  clear hw2 hsz1
  obtain ⟨P, hP⟩ : ∃ P, P = w.heap.size := ⟨_, rfl⟩
  have HP := hidIt hP
  rw [← hP] at HX HA ⊢
  clear hP
  obtain ⟨x0, x1⟩ := And.intro (cell_two0 HX.out) (cell_two1 HX.out)
  have lx := lt_of_block HX.out
  go_wp2_with fail
  refine HV.out.mono ?_
  rintro e w3 ⟨rfl, hb3⟩
  have HA3 := hidIt (HA.out.go hb3)
  have HB3 := hidIt (HB.out.trans (Below.mono hb3 HB.out.size))
  clear hb3 HA HB x0 x1 lx HX
  go_wp2_with (with_reducible refine at_store57 rfl ?_; refine Hid.out ?_)
  refine hidIt ?_
  refine wpList_store_at rfl (.tmp 4) (.tmp 15) rfl (P + 1) rfl 0#64 (fun _ => 0#64) rfl HA3.out ?_
  intro w4 ha4 hb4
  have HA4 := hidIt ha4
  have HB4 := hidIt (HB3.out.trans (hb4 _ (Nat.le_succ_of_le (Nat.le_of_eq HP.out.symm))))
  have hlv := loadVar_at ha4
  clear ha4 hb4
  go_wp2_with fail
  refine bodyPost_ret (v := .tuple #[.agg (aRow 0#64 fun _ => 0#64), .int .u64 0, .bool false]) (by simp [results, Tryd.results48, asAddr, hlv]) rfl ?_
  exact ⟨rfl, HB4.out⟩

def setF (x : List Int) : BitVec 64 := x.foldl (fun s z => s ||| oneB z.toNat) 0#64
theorem setF_step {x : List Int} {k : Nat} (h : k < x.length) : setF (x.take (k + 1)) = setF (x.take k) ||| oneB x[k].toNat := by
  unfold setF
  rw [List.take_succ_eq_append_getElem h, List.foldl_append]
  rfl
theorem setF_bOf {N : Nat} (hN : N ≤ 64) {x : List Int} (hs : setB N x = true) : setF x = bOf N (memB x) := by
  have gen : ∀ (l : List Int) (s : BitVec 64) (j : Nat), (∀ z ∈ l, 0 ≤ z ∧ z < 64) → (l.foldl (fun s z => s ||| oneB z.toNat) s).getLsbD j = (s.getLsbD j || decide ((j : Int) ∈ l)) := by
    intro l
    induction l with
    | nil => intro s j _; simp
    | cons z r ih =>
      intro s j hz
      rw [List.foldl_cons, ih _ j (fun y hy => hz y (List.mem_cons_of_mem _ hy)), BitVec.getLsbD_or, BitVec.getLsbD_twoPow]
      have h0 := hz z (List.mem_cons_self ..)
      have e : (decide (z.toNat < 64) && decide (z.toNat = j)) = decide ((j : Int) = z) := by
        rw [Bool.eq_iff_iff, Bool.and_eq_true, decide_eq_true_eq, decide_eq_true_eq, decide_eq_true_eq]
        omega
      rw [e]
      cases s.getLsbD j <;> simp [List.mem_cons]
  have hu := setB_iff.1 hs
  refine bv_bits fun j => ?_
  rw [setF, gen x 0#64 j (fun z hz => by have := hu.1 z hz; omega), bOf_bit hN]
  simp only [BitVec.getLsbD_zero, Bool.false_or]
  unfold memB
  by_cases hj : (j : Int) ∈ x
  · have := hu.1 _ hj
    rw [decide_eq_true hj, decide_eq_true (show j < N by omega)]; rfl
  · rw [decide_eq_false hj, Bool.and_false]

theorem nodes_word {N : Nat} (hN : N ≤ 40) : IntKind.u64.wrap (IntKind.u64.wrap (2 ^ N) - 1) = ((bOf N allX).toNat : Int) := by
  have h1 := bOf_all (N := N) (by omega)
  have h2 := wrap_one (m := N) (by omega)
  have h3 := one_toNat (m := N) (by omega)
  have h4 : 2 ^ N ≤ 2 ^ 40 := Nat.pow_le_pow_right (by decide) hN
  have h5 : 0 < 2 ^ N := Nat.two_pow_pos N
  rw [h2, h3, h1, IntKind.wrap_u64]
  omega

set_option maxRecDepth 100000 in
set_option maxHeartbeats 4000000 in
theorem qRead_yes (N : Nat) (v v2 : Value) (ps : List (Int × Int)) (x : List Int) (w : World) (h : PairsAt w v ps) (hok : GOk (N : Int) ps) (hpl : ps.length ≤ 100000) (hs : IL w v2 x) (hsl : x.length ≤ 100000) (hset : setB N x = true) :
    Calls Tryd.prog 48 #[.agg #[.int .i64 (N : Int), v], v2] w fun e w' => e = .returned (.tuple #[.agg (aRow (bOf N allX) (attB ps)), bv (bOf N (memB x)), .bool true]) ∧ Below w.heap.size w w' := by
  have hB := bgrow w (.cells #[.int .i64 (N : Int), v] 27)
  have hV := qValid_any N v v2 ps x
  obtain ⟨a, c, rfl, hpc⟩ := h.pc
  obtain ⟨a2, c2, rfl, k2⟩ := hs.ic
  have hX := heap_alloc_new w (.cells #[.int .i64 (N : Int), .slice a ps.length c] 27)
  have hg2 := bgrow (w.alloc (.cells #[.int .i64 (N : Int), .slice a ps.length c] 27)) (.cells (aRow 0#64 fun _ => 0#64) 57)
  have HA := hidIt (heap_alloc_new (w.alloc (.cells #[.int .i64 (N : Int), .slice a ps.length c] 27)) (.cells (aRow 0#64 fun _ => 0#64) 57))
  have HX := hidIt (blk_kept2 hX hg2)
  have HB := hidIt (hB.trans (Below.mono hg2 hB.size))
  have HV := hidIt (hV _ (h.below HB.out) hok (by omega) (hs.below HB.out) hsl)
  have HPC := hidIt hpc
  have HIC := hidIt k2
  have HOK := hidIt hok
  have HSF := hidIt (setF_bOf (N := N) (by have := hok.n40; omega) hset)
  have HSU := hidIt (setB_iff.1 hset)
  have hN : N ≤ 40 := by have := hok.n40; omega
  have hnod := nodes_word hN
  rw [hset] at HV
  clear h hs hB k2 hpc hV hX hg2 hset hok
  go_enter Tryd.func48, Tryd.ntmps48
  go_upto_region 1 with (fail)
  change Hid (AtW _ _ 0#64 fun _ => 0#64) at HA
  generalize hw2 : ((w.alloc (.cells #[.int .i64 (N : Int), .slice a ps.length c] 27)).alloc (.cells (aRow 0#64 fun _ => 0#64) 57)) = w2 at *
  rw [show (.cells #[Value.int .u64 0, .int .u64 0, .int .u64 0, .int .u64 0, .int .u64 0, .int .u64 0, .int .u64 0, .int .u64 0, .int .u64 0, .int .u64 0, .int .u64 0, .int .u64 0, .int .u64 0, .int .u64 0, .int .u64 0, .int .u64 0, .int .u64 0, .int .u64 0, .int .u64 0, .int .u64 0, .int .u64 0, .int .u64 0, .int .u64 0, .int .u64 0, .int .u64 0, .int .u64 0, .int .u64 0, .int .u64 0, .int .u64 0, .int .u64 0, .int .u64 0, .int .u64 0, .int .u64 0, .int .u64 0, .int .u64 0, .int .u64 0, .int .u64 0, .int .u64 0, .int .u64 0, .int .u64 0, .int .u64 0] 57 : Obj) = .cells (aRow 0#64 fun _ => 0#64) 57 from rfl, hw2]
  have hsz1 : (w.alloc (.cells #[.int .i64 (N : Int), .slice a ps.length c] 27)).heap.size = w.heap.size + 1 := World.size_alloc ..
  rw [hsz1] at HA
  clear hw2 hsz1
  obtain ⟨P, hP⟩ : ∃ P, P = w.heap.size := ⟨_, rfl⟩
  have HP := hidIt hP
  rw [← hP] at HX HA ⊢
  clear hP
  obtain ⟨x0, x1⟩ := And.intro (cell_two0 HX.out) (cell_two1 HX.out)
  have lx := lt_of_block HX.out
  go_wp2_with fail
  refine HV.out.mono ?_
  rintro e w3 ⟨rfl, hb3⟩
  have HA3 := hidIt (HA.out.go hb3)
  have HX3 := hidIt (blk_kept2 HX.out hb3)
  have HB3 := hidIt (HB.out.trans (Below.mono hb3 HB.out.size))
  clear hb3 HA HB x0 x1 lx HX HV
  obtain ⟨x0, x1⟩ := And.intro (cell_two0 HX3.out) (cell_two1 HX3.out)
  have lx := lt_of_block HX3.out
  have n0 := HA3.out.nodes
  have f0 := HA3.out.free 0
  have la := lt_of_block HA3.out
  go_upto_region 4 with (fail)
  have HA4 : Hid (AtW (w3.setCell ⟨P + 1, 0, none⟩ (bv (bOf N allX))) (P + 1) (bOf N allX) (attB (ps.take 0))) := HA3.out.set0 _
  have HX4 : Hid ((w3.setCell ⟨P + 1, 0, none⟩ (bv (bOf N allX))).heap[P]? = some (.cells #[.int .i64 (N : Int), .slice a ps.length c] 27 (0, 0))) := by
    show _ = _
    rw [Below.heap_setCell w3 ⟨P + 1, 0, none⟩ _ P (by simp)]
    exact HX3.out
  have HB4 := hidIt (below_set5 (b := P + 1) (i := 0) (u := bv (bOf N allX)) HB3.out (by have := HP.out; omega))
  clear x0 x1 lx n0 f0 la HA3 HX3 HB3 hnod
  generalize (w3.setCell ⟨P + 1, 0, none⟩ (bv (bOf N allX))) = w4 at *
  obtain ⟨x0, x1⟩ := And.intro (cell_two0 HX4.out) (cell_two1 HX4.out)
  have lx := lt_of_block HX4.out
  obtain ⟨M, hM⟩ : ∃ M, M = ps.length := ⟨_, rfl⟩
  have HM := hidIt hM
  rw [← hM] at hpl HX4 x1 ⊢
  clear hM
  go_wp2_with fail
  go_loopw [8, 24] (fun _ i wr => ∃ k : Nat, k ≤ M ∧ i = .int .i64 k ∧ Hid (AtW wr (P + 1) (bOf N allX) (attB (ps.take k))) ∧ Hid (Below w.heap.size w wr)) (fun _ i _ => M - (intOf i).toNat)
  case atStart => exact ⟨0, Nat.zero_le _, (by first | rfl | trivial), HA4.out, HB4.out⟩
  case round =>
    clear HA4 HX4 HB4 x0 x1 lx
    obtain ⟨k, hk, rfl, HA, HB⟩ := hrel
    have hkI0 : (0 : Int) ≤ (k : Int) := by omega
    by_cases hlt : k < M
    · have hkI : (k : Int) < (M : Int) := by omega
      have HLT : Hid (k < ps.length) := by show k < _; rw [← HM.out]; exact hlt
      obtain ⟨b, off, rfl, lb, hcs⟩ := (HPC.out.go HB.out).at_ HLT.out
      obtain ⟨p0, p1⟩ := hcs k HLT.out
      have hmem := HOK.out.ix (ps[k]'HLT.out) (List.getElem_mem _)
      have HST := hidIt (fun i => attB_step HLT.out i)
      obtain ⟨y, hy⟩ : ∃ y, y = ps[k]'HLT.out := ⟨_, rfl⟩
      rw [← hy] at p0 p1 hmem HST
      clear hy hcs
      obtain ⟨gx, sx⟩ := y
      simp only at p0 p1 hmem
      obtain ⟨⟨g0, g1⟩, s0, s1⟩ := hmem
      obtain ⟨f, rfl⟩ : ∃ f : Nat, gx = (f : Int) := ⟨gx.toNat, by omega⟩
      obtain ⟨t, rfl⟩ : ∃ t : Nat, sx = (t : Int) := ⟨sx.toNat, by omega⟩
      have hf : f < 40 := by omega
      have ht : t < 64 := by omega
      have hfI : (f : Int) < 40 := by omega
      have hg2 := bgrow wr (.cells #[.int .i64 (f : Int), .int .i64 (t : Int)] 49)
      have HQ := hidIt (heap_alloc_new wr (.cells #[.int .i64 (f : Int), .int .i64 (t : Int)] 49))
      have HA3 := hidIt (HA.out.go hg2)
      have HB3 := hidIt (HB.out.trans (Below.mono hg2 HB.out.size))
      clear hg2 HA HB
      go_upto_region 7 with (fail)
      generalize wr.alloc (.cells #[.int .i64 (f : Int), .int .i64 (t : Int)] 49) = w5 at *
      clear p0 p1 lb
      generalize wr.heap.size = Q at *
      obtain ⟨y0, y1⟩ := And.intro (cell_two0 HQ.out) (cell_two1 HQ.out)
      have ly := lt_of_block HQ.out
      have c0 := HA3.out.by_ hf
      have f0 := HA3.out.free (1 + f)
      have lc := lt_of_block HA3.out
      have HAN : Hid (AtW (w5.setCell ⟨P + 1, 1 + f, none⟩ (bv (attB (ps.take k) f ||| oneB t))).drew (P + 1) (bOf N allX) (attB (ps.take (k + 1)))) := by
        have h := HA3.out.set f (attB (ps.take k) f ||| oneB t)
        have e : updB (attB (ps.take k)) f (attB (ps.take k) f ||| oneB t) = attB (ps.take (k + 1)) := by
          funext i
          rw [HST.out i]
          unfold updB
          by_cases e : i = f
          · subst e; simp
          · have : ¬ (f : Int) = (i : Int) := by omega
            simp [e, this]
        rw [e] at h
        exact h
      have HBN : Hid (Below w.heap.size w (w5.setCell ⟨P + 1, 1 + f, none⟩ (bv (attB (ps.take k) f ||| oneB t))).drew) := by
        have h := below_set5 (b := P + 1) (i := 1 + f) (u := bv (attB (ps.take k) f ||| oneB t)) HB3.out (by have := HP.out; omega)
        exact ⟨h.os, h.tape, h.output, h.size, h.block⟩
      have HOR := hidIt (or_one (attB (ps.take k) f) ht)
      go_big_region
      go_wp2_with fail
      rw [HOR.out]
      go_roundw
      case rel => exact ⟨k + 1, by omega, by go_num, HAN.out, HBN.out⟩
      case measure => simp [intOf]; omega
    · have hkI : ¬ (k : Int) < (M : Int) := by omega
      have HE : Hid (AtW wr (P + 1) (bOf N allX) (attB ps)) := by
        have := HA.out
        rwa [List.take_of_length_le (by rw [← HM.out]; omega)] at this
      have HIr := hidIt (HIC.out.go HB.out)
      clear HA
      obtain ⟨L, hL⟩ : ∃ L, L = x.length := ⟨_, rfl⟩
      have HL := hidIt hL
      rw [← hL] at hsl ⊢
      clear hL
      generalize hw6 : wr = w6 at *
      clear hw6
      go_wp2_with fail
      go_loopw [5, 10, 42] (fun s _ i wr => ∃ j : Nat, j ≤ L ∧ i = .int .i64 j ∧ s = bv (setF (x.take j)) ∧ wr = w6) (fun _ _ i _ => L - (intOf i).toNat)
      case atStart => exact ⟨0, Nat.zero_le _, (by first | rfl | trivial), (by first | rfl | trivial), (by first | rfl | trivial)⟩
      case round =>
        obtain ⟨j, hj, rfl, rfl, rfl⟩ := hrel
        have hjI0 : (0 : Int) ≤ (j : Int) := by omega
        by_cases hjL : j < L
        · have hjI : (j : Int) < (L : Int) := by omega
          have hjx : j < x.length := by have := HL.out; omega
          obtain ⟨b1, o1, rfl, l1, hc1⟩ := HIr.out.at_ hjx
          have p0 := hc1 j hjx
          have HSS := hidIt (setF_step hjx)
          have hz := HSU.out.1 x[j] (List.getElem_mem hjx)
          clear hc1
          generalize x[j] = z at *
          clear hjx
          obtain ⟨z, rfl⟩ : ∃ z' : Nat, z = (z' : Int) := ⟨z.toNat, by omega⟩
          rw [Int.toNat_natCast] at HSS
          have hz0 : (0 : Int) ≤ (z : Int) := by omega
          have HOR := hidIt (or_one (setF (x.take j)) (m := z) (by omega))
          have hmin : min z 64 = z := by omega
          clear hz
          go_wp2_with fail
          rw [HOR.out]
          go_roundw
          case rel => exact ⟨j + 1, by omega, by go_num, (by rw [HSS.out]), (by first | rfl | trivial)⟩
          case measure => simp [intOf]; omega
        · have hjI : ¬ (j : Int) < (L : Int) := by omega
          have HSE : Hid (setF (x.take j) = bOf N (memB x)) := by
            show _ = _
            rw [List.take_of_length_le (by rw [← HL.out]; omega)]
            exact HSF.out
          rw [HSE.out]
          go_wp2_with (with_reducible refine at_load57 rfl ?_; refine Hid.out ?_)
          refine hidIt ?_
          refine wpList_load_at rfl (.tmp 4) rfl (P + 1) rfl HE.out ?_
          go_wp2_with (with_reducible refine at_store57 rfl ?_; refine Hid.out ?_)
          refine hidIt ?_
          refine wpList_store_at rfl (.tmp 4) (.tmp 51) rfl (P + 1) rfl (bOf N allX) (attB ps) rfl HE.out ?_
          intro w7 ha7 hb7
          have HB7 := hidIt (HB.out.trans (hb7 _ (Nat.le_succ_of_le (Nat.le_of_eq HP.out.symm))))
          have hlv := loadVar_at ha7
          clear ha7 hb7
          go_wp2_with fail
          refine bodyPost_ret (v := .tuple #[.agg (aRow (bOf N allX) (attB ps)), bv (bOf N (memB x)), .bool true]) (by simp [results, Tryd.results48, asAddr, hlv]) rfl ?_
          exact ⟨rfl, HB7.out⟩
end Go.Proofs.YtihmdnbeonefcaaDoor
