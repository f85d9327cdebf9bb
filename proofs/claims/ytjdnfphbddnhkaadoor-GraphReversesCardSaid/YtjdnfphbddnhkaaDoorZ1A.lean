/- The reference's search: for a valid graph and a node, a row that marks the nodes that it reaches. The reference's Reach, for every graph and number. The reference's Reverse, for every graph. keep.Cut: a graph of no more nodes and attacks than these. -/
import Derived.Test.YtjdnfphbddnhkaaDoorG0L
import Derived.Test.YtjdnfphbddnhkaaDoorG0I
import Derived.Test.YtjdnfphbddnhkaaDoorG0R
import Derived.Test.YtjdnfphbddnhkaaDoorG1D
import Derived.Test.YtjdnfphbddnhkaaDoorG0V
import Derived.Laws.Small

namespace Go.Proofs.YtjdnfphbddnhkaaDoor
set_option linter.unusedVariables false
set_option linter.unusedSimpArgs false
open Go Go.RowKit Go.Sort

/-- A row of marks. -/
def cellsB (n : Nat) (f : Nat → Bool) : Array Value := ((List.range n).map fun i => Value.bool (f i)).toArray
theorem cellsB_size (n : Nat) (f : Nat → Bool) : (cellsB n f).size = n := by simp [cellsB]
theorem cellsB_get {n : Nat} {f : Nat → Bool} {i : Nat} (h : i < n) : (cellsB n f)[i]? = some (.bool (f i)) := by simp [cellsB, h]
def updT (f : Nat → Bool) (i : Nat) (S : Bool) : Nat → Bool := fun j => if j = i then S else f j
theorem cellsB_set (n : Nat) (f : Nat → Bool) (i : Nat) (S : Bool) : (cellsB n f).setIfInBounds i (.bool S) = cellsB n (updT f i S) := by
  apply Array.ext_getElem?
  intro j
  rw [Array.getElem?_setIfInBounds, cellsB_size]
  by_cases hj : j < n
  · rw [cellsB_get hj, cellsB_get hj]
    unfold updT
    by_cases e : i = j
    · subst e; simp [hj]
    · rw [if_neg e, if_neg (Ne.symm e)]
  · have h1 : (cellsB n f)[j]? = none := Array.getElem?_eq_none (by rw [cellsB_size]; omega)
    have h2 : (cellsB n (updT f i S))[j]? = none := Array.getElem?_eq_none (by rw [cellsB_size]; omega)
    rw [h1, h2]
    by_cases e : i = j
    · subst e; simp [hj]
    · rw [if_neg e]
def BoolsIn (w : World) (b n : Nat) (f : Nat → Bool) : Prop := w.heap[b]? = some (.cells (cellsB n f) 4 (0, 0))
theorem BoolsIn.cell {w : World} {b n : Nat} {f : Nat → Bool} (h : BoolsIn w b n f) {i : Nat} (hi : i < n) : w.cell? ⟨b, i, none⟩ = some (.bool (f i)) := by
  unfold BoolsIn at h
  simp [World.cell?, h, cellsB_get hi]
theorem BoolsIn.set {w : World} {b n : Nat} {f : Nat → Bool} (h : BoolsIn w b n f) (i : Nat) (S : Bool) : BoolsIn (w.setCell ⟨b, i, none⟩ (.bool S)) b n (updT f i S) := by
  unfold BoolsIn
  rw [set_cells h, cellsB_set]
theorem BoolsIn.go {w w' : World} {b n : Nat} {f : Nat → Bool} (h : BoolsIn w b n f) (hb : Below w.heap.size w w') : BoolsIn w' b n f := blk_kept2 h hb
theorem infoB9 : (Tryd.prog.info? 4).map (fun i => (i.zero, i.size, i.bytes)) = some (some (.bool false), 1, 1) := by kernel_rfl
theorem made_false (n : Nat) : madeCells #[.bool false] n = cellsB n (fun _ => false) := by
  apply Array.ext_getElem?
  intro i
  by_cases h : i < n
  · rw [cellsB_get h]
    unfold madeCells
    simp [h]
    rw [show i % 1 = 0 from Nat.mod_one i]
    rfl
  · have h1 : (cellsB n (fun _ => false))[i]? = none := Array.getElem?_eq_none (by rw [cellsB_size]; omega)
    rw [h1]
    unfold madeCells
    simp
    omega
theorem make_bools (n : Nat) (hn : n ≤ 1000) (w : World) : (Instr.makeSlice 62 (.int .i64 (n : Int)) (.int .i64 (n : Int))).run Tryd.prog w = .ok (.slice (some ⟨w.heap.size, 0, none⟩) n n) (w.alloc (.cells (cellsB n (fun _ => false)) 4)) := by
  obtain ⟨i0, hi, hz0, hz1, hz2⟩ := info_parts infoB9
  have hr := run_make (P := Tryd.prog) w 62 4 i0 _ Tryd.underlying62 hi hz0 .i64 .i64 (n : Int) (n : Int) (by omega) (by omega) (by rw [hz2]; omega) (by omega)
  rw [hz1] at hr
  simp only [Int.toNat_natCast, Nat.mul_one] at hr
  rw [← made_false]
  exact hr

/-- How many marks a block holds. -/
def isT : Value → Bool | .bool b => b | _ => false
def cntK (n : Nat) (f : Nat → Bool) : Nat := ((List.range n).filter f).length
def cntW (w : World) (b : Nat) : Nat := match w.heap[b]? with | some (.cells cs _ _) => (cs.toList.filter isT).length | _ => 0
theorem cnt_of {w : World} {b n : Nat} {f : Nat → Bool} (h : BoolsIn w b n f) : cntW w b = cntK n f := by
  unfold cntW
  unfold BoolsIn at h
  rw [h]
  show ((cellsB n f).toList.filter isT).length = _
  unfold cellsB cntK
  rw [List.toList_toArray, List.filter_map, List.length_map]
  rfl
theorem cnt_le (n : Nat) (f : Nat → Bool) : cntK n f ≤ n := by
  have := List.length_filter_le f (List.range n)
  rw [List.length_range] at this
  exact this
theorem cnt_upd {n : Nat} {f : Nat → Bool} {i : Nat} (hi : i < n) (h : f i = false) : cntK n (updT f i true) = cntK n f + 1 :=
  filter_more f (updT f i true) i h (fun j => by
    unfold updT
    by_cases e : j = i
    · subst e; simp
    · simp [e]) n hi

/-- The search under way: what is marked is reached, the first k pairs lead to nothing new. -/
structure RS (N I : Nat) (ps : List (Int × Int)) (f : Nat → Bool) : Prop where
  beg : f I = true
  sub : ∀ j, f j = true → Rch ps I j
def Clo (ps : List (Int × Int)) (k : Nat) (f : Nat → Bool) : Prop := ∀ j (h : j < ps.length), j < k → f ps[j].1.toNat = true → f ps[j].2.toNat = true
theorem RS.start {N I : Nat} {ps : List (Int × Int)} : RS N I ps (updT (fun _ => false) I true) :=
  ⟨by unfold updT; simp, fun j h => by
    unfold updT at h
    by_cases e : j = I
    · subst e; exact .here
    · simp [e] at h⟩
theorem RS.step {N I f t : Nat} {ps : List (Int × Int)} {g : Nat → Bool} (h : RS N I ps g) (hm : ((f : Int), (t : Int)) ∈ ps) (hf : g f = true) : RS N I ps (updT g t true) :=
  ⟨by unfold updT; by_cases e : I = t <;> simp [e, h.beg], fun j hj => by
    unfold updT at hj
    by_cases e : j = t
    · subst e; exact .step (h.sub f hf) hm
    · simp only [e, if_false] at hj; exact h.sub j hj⟩
theorem Clo.zero (ps : List (Int × Int)) (f : Nat → Bool) : Clo ps 0 f := fun j _ h => by omega
theorem Clo.step {ps : List (Int × Int)} {k : Nat} {g : Nat → Bool} (h : Clo ps k g) {f t : Nat} (hk : k < ps.length) (he : ps[k] = ((f : Int), (t : Int))) (hc : g f = true → g t = true) : Clo ps (k + 1) g := fun j hj hlt => by
  by_cases e : j = k
  · subst e
    rw [he]
    simpa using hc
  · exact h j hj (by omega)
theorem RS.fin {N I : Nat} {ps : List (Int × Int)} {g : Nat → Bool} (h : RS N I ps g) (hc : Clo ps ps.length g) : g = rchB ps I := by
  funext j
  rw [Bool.eq_iff_iff, rchB_iff]
  refine ⟨h.sub j, fun hr => ?_⟩
  induction hr with
  | here => exact h.beg
  | step _ hm ih =>
    obtain ⟨i, hi, he⟩ := List.mem_iff_getElem.1 hm
    have := hc i hi hi
    rw [he] at this
    simpa using this (by simpa using ih)

/-- The search's memory. -/
structure RD (w wr : World) (b N : Nat) (cs : Array Value) (f : Nat → Bool) : Prop where
  lo : w.heap.size < b
  box : wr.heap[w.heap.size]? = some (.cells cs 24 (0, 0))
  bs : BoolsIn wr b N f
  bel : Below w.heap.size w wr
theorem RD.set {w wr : World} {b N : Nat} {cs : Array Value} {f : Nat → Bool} (h : RD w wr b N cs f) (i : Nat) (S : Bool) : RD w (wr.setCell ⟨b, i, none⟩ (.bool S)) b N cs (updT f i S) :=
  ⟨h.lo, by rw [Below.heap_setCell wr ⟨b, i, none⟩ _ w.heap.size (by have := h.lo; show w.heap.size ≠ b; omega)]; exact h.box, h.bs.set i S, below_set5 h.bel (Nat.le_of_lt h.lo)⟩

set_option maxRecDepth 100000 in
set_option maxHeartbeats 4000000 in
theorem rgreached_any (N I : Nat) (v : Value) (ps : List (Int × Int)) (w : World) (h : PairsAt w v ps) (hok : GOk (N : Int) ps) (hI : I < N) (hl : ps.length ≤ 1000) :
    Calls Tryd.prog 44 #[.agg #[.int .i64 (N : Int), v], .int .i64 (I : Int)] w fun e w' => ∃ b, e = .returned (.slice (some ⟨b, 0, none⟩) N N) ∧ w.heap.size ≤ b ∧ BoolsIn w' b N (rchB ps I) ∧ Below w.heap.size w w' := by
  have hB := bgrow w (.cells #[.int .i64 (N : Int), v] 24)
  obtain ⟨a, c, rfl, hpc⟩ := h.pc
  have HPC := hidIt hpc
  have HX := hidIt (heap_alloc_new w (.cells #[.int .i64 (N : Int), .slice a ps.length c] 24))
  have HB := hidIt hB
  have HOK := hidIt hok
  have hN : N ≤ 40 := by have := hok.n40; omega
  have hmk := fun w => make_bools N (by omega) w
  clear h hpc hB hok
  go_enter Tryd.func44, Tryd.ntmps44
  go_upto_region 1 with (fail)
  have hsz : (w.alloc (.cells #[.int .i64 (N : Int), .slice a ps.length c] 24)).heap.size = w.heap.size + 1 := by simp
  generalize (w.alloc (.cells #[.int .i64 (N : Int), .slice a ps.length c] 24)) = w1 at *
  obtain ⟨x0, x1⟩ := And.intro (cell_two0 HX.out) (cell_two1 HX.out)
  have lx := lt_of_block HX.out
  have hb2 := bgrow w1 (.cells (cellsB N (fun _ => false)) 4)
  have HRD : Hid (RD w (w1.alloc (.cells (cellsB N (fun _ => false)) 4)) (w.heap.size + 1) N #[.int .i64 (N : Int), .slice a ps.length c] (fun _ => false)) :=
    ⟨Nat.lt_succ_self _, blk_kept2 HX.out hb2, by have := heap_alloc_new w1 (.cells (cellsB N (fun _ => false)) 4); rw [hsz] at this; exact this, HB.out.trans (Below.mono hb2 HB.out.size)⟩
  clear hb2
  go_upto_region 2 with (fail)
  generalize (w1.alloc (.cells (cellsB N (fun _ => false)) 4)) = w2 at *
  clear hsz x0 x1 lx hmk HX HB
  have hI0 : (0 : Int) ≤ (I : Int) := by omega
  have hIN : (I : Int) < (N : Int) := by omega
  have f0 := free_any HRD.out.bs I
  have c0 := HRD.out.bs.cell hI
  have lc := lt_of_block HRD.out.bs
  have HRD3 := hidIt (HRD.out.set I true)
  have HRS := hidIt (RS.start (N := N) (I := I) (ps := ps))
  generalize updT (fun _ => false) I true = g0 at *
  go_upto_region 3 with (fail)
  generalize (w2.setCell ⟨w.heap.size + 1, I, none⟩ (.bool true)) = w3 at *
  clear f0 c0 lc HRD
  obtain ⟨M, hM⟩ : ∃ M, M = ps.length := ⟨_, rfl⟩
  have HM := hidIt hM
  rw [← hM] at hl HRD3
  clear hM
  generalize hQ : w.heap.size + 1 = Q at *
  have HQ := hidIt hQ
  clear hQ
  go_wp2_with fail
  go_loopw [6, 7] (fun v6 _ wr => ∃ (ag : Bool) (g : Nat → Bool), v6 = .bool ag ∧ Hid (RS N I ps g) ∧ Hid (RD w wr Q N #[.int .i64 (N : Int), .slice a M c] g) ∧ Hid (ag = false → Clo ps M g)) (fun v6 _ wr => 2 * (N - cntW wr Q) + (match v6 with | .bool true => 1 | _ => 0))
  case atStart => exact ⟨true, g0, (by first | rfl | trivial), HRS.out, HRD3.out, fun h => by cases h⟩
  case round =>
    clear HRD3 HRS
    obtain ⟨ag, g1, rfl, HRS1, HRD1, HC1⟩ := hrel
    cases ag
    · have HFIN := hidIt (HRS1.out.fin (by have := HC1.out rfl; rw [HM.out] at this; exact this))
      go_wp2_with fail
      go_ret
      refine ⟨_, rfl, by rw [← HQ.out]; omega, ?_, HRD1.out.bel⟩
      rw [← HFIN.out]
      exact HRD1.out.bs
    · clear HC1
      go_wp2_with fail
      go_loopw [6, 7] (fun v6 v7 wr => ∃ (ag : Bool) (k : Nat) (g : Nat → Bool), v6 = .bool ag ∧ v7 = .int .i64 (k : Int) ∧ k ≤ M ∧ Hid (RS N I ps g) ∧ Hid (RD w wr Q N #[.int .i64 (N : Int), .slice a M c] g) ∧ Hid (cntK N g1 ≤ cntK N g ∧ (ag = true → cntK N g1 < cntK N g) ∧ (ag = false → Clo ps k g))) (fun _ v7 _ => M - (intOf v7).toNat)
      case atStart => exact ⟨false, 0, g1, (by first | rfl | trivial), (by first | rfl | trivial), Nat.zero_le _, HRS1.out, HRD1.out, Nat.le_refl _, (fun h => by cases h), fun _ => Clo.zero _ _⟩
      case round =>
        have HCW := hidIt (cnt_of HRD1.out.bs)
        clear HRD1 HRS1
        obtain ⟨ag, k, g, rfl, rfl, hk, HRS, HRD, HCN⟩ := hrel
        have hkI0 : (0 : Int) ≤ (k : Int) := by omega
        obtain ⟨x0, x1⟩ := And.intro (cell_two0 HRD.out.box) (cell_two1 HRD.out.box)
        have lx := lt_of_block HRD.out.box
        by_cases hlt : k < M
        · have hkI : (k : Int) < (M : Int) := by omega
          have HLT : Hid (k < ps.length) := by show k < _; rw [← HM.out]; exact hlt
          obtain ⟨b, off, rfl, lb, hcs⟩ := (HPC.out.go HRD.out.bel).at_ HLT.out
          obtain ⟨p0, p1⟩ := hcs k HLT.out
          have hmem := HOK.out.ix (ps[k]'HLT.out) (List.getElem_mem _)
          have HMEM := hidIt (List.getElem_mem HLT.out)
          obtain ⟨x, hx⟩ : ∃ x, x = ps[k]'HLT.out := ⟨_, rfl⟩
          rw [← hx] at p0 p1 hmem HMEM
          have HXE := hidIt hx
          clear hx hcs
          obtain ⟨gx, sx⟩ := x
          simp only at p0 p1 hmem
          obtain ⟨⟨q0, q1⟩, s0, s1⟩ := hmem
          obtain ⟨f, rfl⟩ : ∃ f : Nat, gx = (f : Int) := ⟨gx.toNat, by omega⟩
          obtain ⟨t, rfl⟩ : ∃ t : Nat, sx = (t : Int) := ⟨sx.toNat, by omega⟩
          have hf : f < N := by omega
          have ht : t < N := by omega
          have cf := HRD.out.bs.cell hf
          have ct := HRD.out.bs.cell ht
          have lc := lt_of_block HRD.out.bs
          cases hgf : g f
          · have HGF := hidIt hgf
            rw [hgf] at cf
            clear hgf
            have HN : Hid (ag = false → Clo ps (k + 1) g) := fun h => (HCN.out.2.2 h).step HLT.out HXE.out.symm (fun h2 => by rw [HGF.out] at h2; cases h2)
            go_wp2_with fail
            go_roundw
            case rel => exact ⟨ag, k + 1, g, (by first | rfl | trivial), by go_num, by omega, HRS.out, HRD.out, HCN.out.1, HCN.out.2.1, HN.out⟩
            case measure => simp [intOf]; omega
          · have HGF := hidIt hgf
            rw [hgf] at cf
            clear hgf
            cases hgt : g t
            · have HGT := hidIt hgt
              rw [hgt] at ct
              clear hgt
              have f0 := free_any HRD.out.bs t
              have HRD2 := hidIt (HRD.out.set t true)
              have HRS2 := hidIt (HRS.out.step HMEM.out HGF.out)
              have HCU := hidIt (cnt_upd ht HGT.out)
              go_wp2_with fail
              go_roundw
              case rel => exact ⟨true, k + 1, updT g t true, (by first | rfl | trivial), by go_num, by omega, HRS2.out, HRD2.out, by rw [HCU.out]; have := HCN.out.1; omega, fun _ => by rw [HCU.out]; have := HCN.out.1; omega, fun h => by cases h⟩
              case measure => simp [intOf]; omega
            · have HGT := hidIt hgt
              rw [hgt] at ct
              clear hgt
              have HN : Hid (ag = false → Clo ps (k + 1) g) := fun h => (HCN.out.2.2 h).step HLT.out HXE.out.symm (fun h2 => HGT.out)
              go_wp2_with fail
              go_roundw
              case rel => exact ⟨ag, k + 1, g, (by first | rfl | trivial), by go_num, by omega, HRS.out, HRD.out, HCN.out.1, HCN.out.2.1, HN.out⟩
              case measure => simp [intOf]; omega
        · have hkI : ¬ (k : Int) < (M : Int) := by omega
          have hkM : k = M := by omega
          subst hkM
          go_wp2_with fail
          go_roundw
          case rel => exact ⟨ag, g, (by first | rfl | trivial), HRS.out, HRD.out, HCN.out.2.2⟩
          case measure =>
            have h1 := cnt_of HRD.out.bs
            have h2 := HCN.out
            have h3 := cnt_le N g
            have h4 := HCW.out
            show 2 * (N - cntW wr Q) + _ < 2 * (N - cntW _ Q) + _
            rw [h1, h4]
            cases ag
            · show 2 * (N - cntK N g) + 0 < 2 * (N - cntK N g1) + 1
              omega
            · have := h2.2.1 rfl
              show 2 * (N - cntK N g) + 1 < 2 * (N - cntK N g1) + 1
              omega
end Go.Proofs.YtjdnfphbddnhkaaDoor

namespace Go.Proofs.YtjdnfphbddnhkaaDoor
set_option linter.unusedVariables false
set_option linter.unusedSimpArgs false
open Go Go.RowKit Go.Sort

theorem reach_step (g : Nat → Bool) (k : Nat) : ints ((List.range (k + 1)).filter g) = ints ((List.range k).filter g) ++ (if g k then [(k : Int)] else []) := by
  unfold ints
  rw [List.range_succ, List.filter_append, List.map_append]
  cases h : g k <;> simp [h]

set_option maxRecDepth 100000 in
set_option maxHeartbeats 4000000 in
theorem rgReach_any (n : Int) (v : Value) (xs : List (Int × Int)) (i : Int) (w : World) (h : PairsAt w v xs) (hl : xs.length ≤ 1000) :
    Calls Tryd.prog 24 #[.agg #[.int .i64 n, v], .int .i64 i] w fun e w' => ∃ v', e = .returned v' ∧ IL w' v' (reachL (vN n xs) (vL n xs) i) ∧ Below w.heap.size w w' := by
  have hB := bgrow w (.cells #[.int .i64 n, v] 24)
  have h1 := h.below hB
  have HV := hidIt (h.valid n)
  obtain ⟨a, c, rfl, -⟩ := h.form
  have HX := hidIt (heap_alloc_new w (.cells #[.int .i64 n, .slice a xs.length c] 24))
  have HB := hidIt hB
  have H1 := hidIt h1
  have HL := hidIt hl
  have HOK := hidIt (v_ok n xs)
  clear h h1 hB hl
  go_enter Tryd.func24, Tryd.ntmps24
  go_upto_region 1 with (fail)
  generalize (w.alloc (.cells #[.int .i64 n, .slice a xs.length c] 24)) = w1 at *
  obtain ⟨x0, x1⟩ := And.intro (cell_two0 HX.out) (cell_two1 HX.out)
  have lx := lt_of_block HX.out
  go_wp2_with fail
  refine (rgvalid_any n _ xs _ H1.out (by have := HL.out; omega)).mono ?_
  rintro e w2 ⟨rfl, hb⟩
  have HX2 := hidIt (blk_kept2 HX.out hb)
  have HLN : Hid ((vL n xs).length ≤ 1000) := Nat.le_trans (vL_len n xs) HL.out
  have HB2 := hidIt (HB.out.trans (Below.mono hb HB.out.size))
  clear hb x0 x1 lx HX H1 HL HB
  generalize hps : vL n xs = ps at *
  have HPS := hidIt hps
  clear hps
  generalize hm : vN n xs = m at *
  have HMM := hidIt hm
  clear hm
  generalize vV n xs _ = v' at *
  obtain ⟨a', c', rfl, -⟩ := HV.out.form
  have HB3 := hidIt (below_set5 (i := 1) (u := .slice a' ps.length c') (below_set5 (i := 0) (u := .int .i64 m) HB2.out (Nat.le_refl _)) (Nat.le_refl _))
  have HX3 := hidIt (box_set2 (x := .int .i64 m) (y := .slice a' ps.length c') HX2.out)
  have HP3 := hidIt (HV.out.below HB3.out)
  obtain ⟨x0, x1⟩ := And.intro (cell_two0 HX2.out) (cell_two1 HX2.out)
  have lx := lt_of_block HX2.out
  have f0 := free_any HX2.out 0
  have f1 := free_any HX2.out 1
  go_upto_region 2 with (fail)
  generalize ((w2.setCell ⟨w.heap.size, 0, none⟩ (.int .i64 m)).setCell ⟨w.heap.size, 1, none⟩ (.slice a' ps.length c')) = w3 at *
  clear x0 x1 lx f0 f1 HX2 HB2
  obtain ⟨x0, x1⟩ := And.intro (cell_two0 HX3.out) (cell_two1 HX3.out)
  have lx := lt_of_block HX3.out
  have HRL : Hid (reachL m ps i = if ixB i m = true then ints (reachN m.toNat ps i.toNat) else []) := (rfl : _ = _)
  cases hix : ixB i m
  · rw [hix] at HRL
    have hf := ixB_false hix
    clear hix
    by_cases hi0 : i < 0
    · clear hf
      have hd : decide (i < 0) = true := decide_eq_true hi0
      go_wp2_with fail
      go_ret
      rw [HPS.out, HMM.out, HRL.out]
      exact ⟨_, rfl, IL.nil _, HB3.out⟩
    · have hi1 : m ≤ i := by omega
      clear hf
      have hd : decide (i < 0) = false := decide_eq_false hi0
      have hd2 : decide (m ≤ i) = true := decide_eq_true hi1
      go_wp2_with fail
      go_ret
      rw [HPS.out, HMM.out, HRL.out]
      exact ⟨_, rfl, IL.nil _, HB3.out⟩
  obtain ⟨hi0, hi1⟩ := ixB_true hix
  rw [hix, if_pos rfl] at HRL
  obtain ⟨N, rfl⟩ : ∃ N : Nat, m = (N : Int) := ⟨m.toNat, by have := HOK.out.n0; omega⟩
  obtain ⟨I, rfl⟩ : ∃ I : Nat, i = (I : Int) := ⟨i.toNat, by omega⟩
  have hN : N ≤ 40 := by have := HOK.out.n40; omega
  clear hix
  rw [Int.toNat_natCast, Int.toNat_natCast] at HRL
  have hIN : I < N := by omega
  go_wp2_with fail
  refine (rgreached_any N I _ ps _ HP3.out HOK.out hIN (by have := HLN.out; omega)).mono ?_
  rintro e w4 ⟨b, rfl, hbb, hs, hb⟩
  have HS4 := hidIt hs
  have HB4 := hidIt (HB3.out.trans (Below.mono hb HB3.out.size))
  have HRL2 : Hid (reachL (N : Int) ps (I : Int) = ints ((List.range N).filter (rchB ps I))) := HRL.out
  generalize rchB ps I = g at *
  clear hs hb hbb x0 x1 lx HX3 HP3 HB3 HRL
  obtain ⟨B, hB⟩ : ∃ B, B = w4.heap.size := ⟨_, rfl⟩
  have HBq := hidIt hB
  clear hB
  go_wp2_with fail
  go_loopw [5, 6, 7, 22] (fun v5 _ _ vk wr => ∃ (k : Nat) (zs : List Int) (za : Option Addr) (zc : Nat), v5 = .slice za zs.length zc ∧ vk = .int .i64 (k : Int) ∧ k ≤ N ∧ Hid (zs = ints ((List.range k).filter g)) ∧ Hid (OwnI wr B (.slice za zs.length zc) zs) ∧ Hid (Below B w4 wr)) (fun _ _ _ vk _ => N - (intOf vk).toNat)
  case atStart => exact ⟨0, [], none, 0, rfl, (by first | rfl | trivial), Nat.zero_le _, (rfl : _ = _), OwnI.nil _ _, Below.refl _ _⟩
  case round =>
    obtain ⟨k, zs, za, zc, rfl, rfl, hk, HZ, HO, HBr⟩ := hrel
    have hkI0 : (0 : Int) ≤ (k : Int) := by omega
    have HBr3 : Hid (Below w4.heap.size w4 wr) := by show Below _ _ _; rw [← HBq.out]; exact HBr.out
    have HSr := hidIt (HS4.out.go HBr3.out)
    by_cases hlt : k < N
    · have hkI : (k : Int) < (N : Int) := by omega
      have hc := HSr.out.cell hlt
      have lc := lt_of_block HSr.out
      have HST : Hid (ints ((List.range (k + 1)).filter g) = zs ++ (if g k then [(k : Int)] else [])) := by show _ = _; rw [reach_step, ← HZ.out]
      have hzl : zs.length ≤ 1000 := by
        rw [HZ.out]
        unfold ints
        rw [List.length_map]
        have := List.length_filter_le g (List.range k)
        rw [List.length_range] at this
        omega
      cases hgk : g k
      · rw [hgk] at hc HST
        clear hgk
        have HE : Hid (zs = ints ((List.range (k + 1)).filter g)) := by show _ = _; rw [HST.out]; simp
        go_wp2_with fail
        go_roundw
        case rel => exact ⟨k + 1, zs, za, zc, rfl, by go_num, by omega, HE.out, HO.out, HBr.out⟩
        case measure => simp [intOf]; omega
      · rw [hgk] at hc HST
        clear hgk
        have HE : Hid (zs ++ [(k : Int)] = ints ((List.range (k + 1)).filter g)) := by show _ = _; rw [HST.out]; simp
        clear HST
        obtain ⟨L, hL⟩ : ∃ L, L = zs.length := ⟨_, rfl⟩
        have HLL := hidIt hL
        have HO7 : Hid (World.ownsRow (wr.alloc (.cells #[.int .i64 (k : Int)] 3)) B 3 1 (.slice za L zc) L (zs.map (Value.int .i64))) := by
          have h := HO.out.go (bgrow wr (.cells #[.int .i64 (k : Int)] 3))
          unfold OwnI at h
          rw [← hL] at h
          exact h
        have hBsz : B ≤ wr.heap.size := by have := HBr.out.size; have := HBq.out; omega
        have HB7 := hidIt (HBr.out.trans (Below.mono (bgrow wr (.cells #[.int .i64 (k : Int)] 3)) hBsz))
        have hsz7 : B ≤ (wr.alloc (.cells #[.int .i64 (k : Int)] 3)).heap.size := Nat.le_trans hBsz (bgrow wr _).size
        rw [← hL] at hzl ⊢
        clear hL HBr HO hBsz
        go_wp2_with (at_builtin; refine Hid.out ?_)
        refine hidIt ?_
        refine wpList_append_kb rfl _ _ elemI rfl B (.slice za L zc) L _ rfl HO7.out _ 1 rfl #[.int .i64 (k : Int)] 3 (heap_alloc_new _ _) rfl (one_of (by rfl)) (by omega) hsz7 ?_
        intro g8 c8 w8 hown8 hg8 hbl8
        have HB8 := hidIt (below_app5 HB7.out hg8 (fun g e => (owns_blk HO7.out g e).1) hsz7)
        have HL8 : Hid ((zs ++ [(k : Int)]).length = L + 1) := by show _ = _; rw [List.length_append, HLL.out]; rfl
        have HO8 : Hid (OwnI w8 B (.slice (some ⟨g8, 0, none⟩) (L + 1) c8) (zs ++ [(k : Int)])) := by
          show World.ownsRow _ _ _ _ _ _ _
          rw [HL8.out, List.map_append]
          exact hown8
        clear hown8 hg8 hbl8 HO7 HB7 hsz7
        go_wp2_with fail
        go_roundw
        case rel => exact ⟨k + 1, zs ++ [(k : Int)], some ⟨g8, 0, none⟩, c8, (by rw [HL8.out]), by go_num, by omega, HE.out, (by rw [HL8.out]; exact HO8.out), HB8.out⟩
        case measure => simp [intOf]; omega
    · have hkI : ¬ (k : Int) < (N : Int) := by omega
      have hkN : k = N := by omega
      have HE : Hid (zs = reachL (N : Int) ps (I : Int)) := by show _ = _; rw [HRL2.out, HZ.out, hkN]
      have HIL := hidIt HO.out.il
      have HBF := hidIt (HB4.out.trans (Below.mono HBr3.out HB4.out.size))
      clear hkN
      go_wp2_with fail
      go_ret
      rw [HPS.out, HMM.out, ← HE.out]
      exact ⟨_, rfl, HIL.out, HBF.out⟩
end Go.Proofs.YtjdnfphbddnhkaaDoor

namespace Go.Proofs.YtjdnfphbddnhkaaDoor
set_option linter.unusedVariables false
set_option linter.unusedSimpArgs false
open Go Go.RowKit Go.Sort

theorem revL_up (ps : List (Int × Int)) (k : Nat) : revL (k + 1) ps = revL k ps ++ (inL ps (k : Int)).map fun j => ((k : Int), j) := by
  unfold revL
  rw [List.range_succ, List.flatMap_append]
  simp
theorem revL_le (ps : List (Int × Int)) : ∀ k, (revL k ps).length ≤ k * ps.length
  | 0 => by simp [revL]
  | k + 1 => by
    rw [revL_up, List.length_append, List.length_map, Nat.succ_mul]
    have := revL_le ps k
    have := inL_len ps (k : Int)
    omega

set_option maxRecDepth 100000 in
set_option maxHeartbeats 2000000 in
theorem rgAttackers_own (n : Int) (v : Value) (xs : List (Int × Int)) (i : Int) (w : World) (h : PairsAt w v xs) (hl : xs.length ≤ 1000) :
    Calls Tryd.prog 20 #[.agg #[.int .i64 n, v], .int .i64 i] w fun e w' => ∃ v', e = .returned v' ∧ OwnI w' w.heap.size v' (inL (vL n xs) i) ∧ Below w.heap.size w w' := by
  have hB := bgrow w (.cells #[.int .i64 n, v] 24)
  have h1 := h.below hB
  have HV := hidIt (h.valid n)
  obtain ⟨a, c, rfl, -⟩ := h.form
  have HX := hidIt (heap_alloc_new w (.cells #[.int .i64 n, .slice a xs.length c] 24))
  have HB := hidIt hB
  have H1 := hidIt h1
  have HL := hidIt hl
  clear h h1 hB hl
  go_enter Tryd.func20, Tryd.ntmps20
  go_upto_region 1 with (fail)
  generalize (w.alloc (.cells #[.int .i64 n, .slice a xs.length c] 24)) = w1 at *
  obtain ⟨x0, x1⟩ := And.intro (cell_two0 HX.out) (cell_two1 HX.out)
  have lx := lt_of_block HX.out
  go_wp2_with fail
  refine (rgvalid_any n _ xs _ H1.out (by have := HL.out; omega)).mono ?_
  rintro e w2 ⟨rfl, hb⟩
  have HX2 := hidIt (blk_kept2 HX.out hb)
  have HLN : Hid ((vL n xs).length ≤ 1000) := Nat.le_trans (vL_len n xs) HL.out
  have HB2 := hidIt (HB.out.trans (Below.mono hb HB.out.size))
  have HP := hidIt (HV.out.below HB2.out)
  clear hb x0 x1 lx HX H1 HL HB
  generalize hps : vL n xs = ps at *
  have HPS := hidIt hps
  clear hps
  generalize vN n xs = m at *
  generalize vV n xs _ = v' at *
  obtain ⟨a', c', rfl, hpc⟩ := HV.out.pc
  have HB3 := hidIt (below_set5 (i := 1) (u := .slice a' ps.length c') (below_set5 (i := 0) (u := .int .i64 m) HB2.out (Nat.le_refl _)) (Nat.le_refl _))
  have HX3 := hidIt (box_set2 (x := .int .i64 m) (y := .slice a' ps.length c') HX2.out)
  have HPC := hidIt (hpc.go HB3.out)
  obtain ⟨x0, x1⟩ := And.intro (cell_two0 HX2.out) (cell_two1 HX2.out)
  have lx := lt_of_block HX2.out
  have f0 := free_any HX2.out 0
  have f1 := free_any HX2.out 1
  clear hpc
  go_upto_region 3 with (fail)
  generalize ((w2.setCell ⟨w.heap.size, 0, none⟩ (.int .i64 m)).setCell ⟨w.heap.size, 1, none⟩ (.slice a' ps.length c')) = w3 at *
  generalize w.heap.size = P at HX3 HX2 ⊢
  clear x0 x1 lx f0 f1
  obtain ⟨M, hM⟩ : ∃ M, M = ps.length := ⟨_, rfl⟩
  have HM := hidIt hM
  rw [← hM] at HX3 HLN ⊢
  clear hM
  have hMn := HLN.out
  obtain ⟨x0, x1⟩ := And.intro (cell_two0 HX3.out) (cell_two1 HX3.out)
  have lx := lt_of_block HX3.out
  obtain ⟨B, hB⟩ : ∃ B, B = w3.heap.size := ⟨_, rfl⟩
  have HBq := hidIt hB
  clear hB
  go_wp2_with fail
  go_loopw [5, 6] (fun v5 vk wr => ∃ (k : Nat) (zs : List Int) (za : Option Addr) (zc : Nat), v5 = .slice za zs.length zc ∧ vk = .int .i64 k ∧ k ≤ M ∧ Hid (zs = inL (ps.take k) i) ∧ Hid (OwnI wr B (.slice za zs.length zc) zs) ∧ Hid (Below B w3 wr)) (fun _ vk _ => M - (intOf vk).toNat)
  case atStart => exact ⟨0, [], none, 0, rfl, (by first | rfl | trivial), Nat.zero_le _, (rfl : [] = inL (ps.take 0) i), OwnI.nil _ _, Below.refl _ _⟩
  case round =>
    obtain ⟨k, zs, za, zc, rfl, rfl, hk, HZ, HO, HBr⟩ := hrel
    have hkI0 : (0 : Int) ≤ (k : Int) := by omega
    have HBr3 : Hid (Below w3.heap.size w3 wr) := by show Below _ _ _; rw [← HBq.out]; exact HBr.out
    have HXr := hidIt (blk_kept2 HX3.out HBr3.out)
    have x0 := cell_two0 HXr.out
    have x1 := cell_two1 HXr.out
    have lx := lt_of_block HXr.out
    by_cases hlt : k < M
    · have hkI : (k : Int) < (M : Int) := by omega
      have HLT : Hid (k < ps.length) := by show k < _; rw [← HM.out]; exact hlt
      obtain ⟨b, off, rfl, lb, hcs⟩ := (HPC.out.go HBr3.out).at_ HLT.out
      obtain ⟨p0, p1⟩ := hcs k HLT.out
      obtain ⟨x, hx⟩ : ∃ x, x = ps[k]'HLT.out := ⟨_, rfl⟩
      rw [← hx] at p0 p1
      have HST : Hid (inL (ps.take (k + 1)) i = zs ++ if (ps[k]'HLT.out).2 == i then [(ps[k]'HLT.out).1] else []) := by show _ = _; rw [inL_step HLT.out, ← HZ.out]
      rw [← hx] at HST
      clear hx hcs
      obtain ⟨gx, sx⟩ := x
      simp only at p0 p1
      have hzl : zs.length ≤ 1000 := by
        have h1 := inL_len (ps.take k) i
        rw [← HZ.out] at h1
        rw [List.length_take] at h1
        have := HM.out
        omega
      have HBn := HBr
      have HOn := HO
      clear HBr HO
      obtain ⟨w4, hw4⟩ : ∃ w4, w4 = wr := ⟨_, rfl⟩
      subst hw4
      by_cases he : sx = i
      · have hb1 : (sx == i) = true := beq_iff_eq.2 he
        have HE : Hid (inL (ps.take (k + 1)) i = zs ++ [gx]) := by show _ = _; rw [HST.out]; simp only [hb1, if_true]
        clear he HST
        obtain ⟨L, hL⟩ : ∃ L, L = zs.length := ⟨_, rfl⟩
        have HLL := hidIt hL
        have HO7 : Hid (World.ownsRow (w4.alloc (.cells #[.int .i64 gx] 3)) B 3 1 (.slice za L zc) L (zs.map (Value.int .i64))) := by
          have h := HOn.out.go (bgrow w4 (.cells #[.int .i64 gx] 3))
          unfold OwnI at h
          rw [← hL] at h
          exact h
        have hBsz : B ≤ w4.heap.size := by have := HBn.out.size; have := HBq.out; omega
        have HB7 := hidIt (HBn.out.trans (Below.mono (bgrow w4 (.cells #[.int .i64 gx] 3)) hBsz))
        have hsz7 : B ≤ (w4.alloc (.cells #[.int .i64 gx] 3)).heap.size := Nat.le_trans hBsz (bgrow w4 _).size
        rw [← hL] at hzl ⊢
        clear hL HBn HOn hBsz
        go_wp2_with (at_builtin; refine Hid.out ?_)
        refine hidIt ?_
        refine wpList_append_kb rfl _ _ elemI rfl B (.slice za L zc) L _ rfl HO7.out _ 1 rfl #[.int .i64 gx] 3 (heap_alloc_new _ _) rfl (one_of (by rfl)) (by omega) hsz7 ?_
        intro g8 c8 w8 hown8 hg8 hbl8
        have HB8 := hidIt (below_app5 HB7.out hg8 (fun g e => (owns_blk HO7.out g e).1) hsz7)
        have HL8 : Hid ((zs ++ [gx]).length = L + 1) := by show _ = _; rw [List.length_append, HLL.out]; rfl
        have HO8 : Hid (OwnI w8 B (.slice (some ⟨g8, 0, none⟩) (L + 1) c8) (zs ++ [gx])) := by
          show World.ownsRow _ _ _ _ _ _ _
          rw [HL8.out, List.map_append]
          exact hown8
        clear hown8 hg8 hbl8 HO7 HB7 hsz7
        go_wp2_with fail
        go_roundw
        case rel => exact ⟨k + 1, zs ++ [gx], some ⟨g8, 0, none⟩, c8, (by rw [HL8.out]), by go_num, by omega, HE.out.symm, (by rw [HL8.out]; exact HO8.out), HB8.out⟩
        case measure => simp [intOf]; omega
      · have hb1 : (sx == i) = false := beq_eq_false_iff_ne.2 he
        have HE : Hid (inL (ps.take (k + 1)) i = zs) := by show _ = _; rw [HST.out]; simp [hb1]
        clear he HST
        go_wp2_with fail
        go_roundw
        case rel => exact ⟨k + 1, zs, za, zc, rfl, by go_num, by omega, HE.out.symm, HOn.out, HBn.out⟩
        case measure => simp [intOf]; omega
    · have hkI : ¬ (k : Int) < (M : Int) := by omega
      have HE : Hid (zs = inL ps i) := by
        have := HZ.out
        rwa [List.take_of_length_le (by rw [← HM.out]; omega)] at this
      have HIL := hidIt (owns_mono HO.out (by rw [HBq.out]; exact HB3.out.size))
      have HBF := hidIt (HB3.out.trans (Below.mono HBr3.out HB3.out.size))
      go_wp2_with fail
      go_ret
      rw [HPS.out, ← HE.out]
      exact ⟨_, rfl, HIL.out, HBF.out⟩

set_option maxRecDepth 100000 in
set_option maxHeartbeats 4000000 in
theorem rgReverse_any (n : Int) (v : Value) (xs : List (Int × Int)) (w : World) (h : PairsAt w v xs) (hl : xs.length ≤ 1000) :
    Calls Tryd.prog 17 #[.agg #[.int .i64 n, v]] w fun e w' => ∃ v', e = .returned (.agg #[.int .i64 (vN n xs), v']) ∧ PairsAt w' v' (rvL n xs) ∧ Below w.heap.size w w' := by
  obtain ⟨⟨hX, hZ⟩, hB⟩ := two_boxes w (.cells #[.int .i64 n, v] 24) (.cells #[.int .i64 0, .slice none 0 0] 24)
  have h1 := h.below hB
  have HV := hidIt (h.valid n)
  obtain ⟨a, c, rfl, -⟩ := h.form
  have HX := hidIt hX
  have HZ := hidIt hZ
  have HB := hidIt hB
  have H1 := hidIt h1
  have HL := hidIt hl
  have HOK := hidIt (v_ok n xs)
  have HRV : Hid (rvL n xs = revL (vN n xs).toNat (vL n xs)) := (rfl : _ = _)
  have hsz : (w.alloc (.cells #[.int .i64 n, .slice a xs.length c] 24)).heap.size = w.heap.size + 1 := by simp
  clear hX hZ hB h1 h hl
  go_enter Tryd.func17, Tryd.ntmps17
  go_upto_region 1 with (fail)
  generalize ((w.alloc (.cells #[.int .i64 n, .slice a xs.length c] 24)).alloc (.cells #[.int .i64 0, .slice none 0 0] 24)) = w1 at *
  clear hsz
  obtain ⟨x0, x1⟩ := And.intro (cell_two0 HX.out) (cell_two1 HX.out)
  have lx := lt_of_block HX.out
  go_wp2_with fail
  refine (rgvalid_any n _ xs _ H1.out (by have := HL.out; omega)).mono ?_
  rintro e w2 ⟨rfl, hb⟩
  have HX2 := hidIt (blk_kept2 HX.out hb)
  have HZ2 := hidIt (blk_kept2 HZ.out hb)
  have HLN : Hid ((vL n xs).length ≤ 1000) := Nat.le_trans (vL_len n xs) HL.out
  have HB2 := hidIt (HB.out.trans (Below.mono hb HB.out.size))
  clear hb x0 x1 lx HX HZ H1 HL HB
  generalize hps : vL n xs = ps at *
  have HPS := hidIt hps
  clear hps
  generalize hm : vN n xs = m at *
  have HMM := hidIt hm
  clear hm
  generalize vV n xs _ = v' at *
  obtain ⟨a', c', rfl, -⟩ := HV.out.pc
  have HB3 := hidIt (below_set5 (i := 1) (u := .slice a' ps.length c') (below_set5 (i := 0) (u := .int .i64 m) HB2.out (Nat.le_refl _)) (Nat.le_refl _))
  have HX3 := hidIt (box_set2 (x := .int .i64 m) (y := .slice a' ps.length c') HX2.out)
  have HZ3 : Hid (((w2.setCell ⟨w.heap.size, 0, none⟩ (.int .i64 m)).setCell ⟨w.heap.size, 1, none⟩ (.slice a' ps.length c')).heap[w.heap.size + 1]? = some (.cells #[.int .i64 0, .slice none 0 0] 24 (0, 0))) := by
    show _ = _
    rw [Below.heap_setCell _ _ _ _ (by show w.heap.size + 1 ≠ w.heap.size; omega), Below.heap_setCell _ _ _ _ (by show w.heap.size + 1 ≠ w.heap.size; omega)]
    exact HZ2.out
  obtain ⟨x0, x1⟩ := And.intro (cell_two0 HX2.out) (cell_two1 HX2.out)
  have lx := lt_of_block HX2.out
  have f0 := free_any HX2.out 0
  have f1 := free_any HX2.out 1
  go_upto_region 2 with (fail)
  generalize ((w2.setCell ⟨w.heap.size, 0, none⟩ (.int .i64 m)).setCell ⟨w.heap.size, 1, none⟩ (.slice a' ps.length c')) = w3 at *
  clear x0 x1 lx f0 f1 HX2 HB2 HZ2
  obtain ⟨x0, x1⟩ := And.intro (cell_two0 HX3.out) (cell_two1 HX3.out)
  have lx := lt_of_block HX3.out
  have hg3 := bgrow w3 (.cells #[.int .i64 m, .slice none 0 0] 24)
  have HX4 := hidIt (blk_kept2 HX3.out hg3)
  have HGR : Hid (GR w (w.heap.size + 1) w3.heap.size m (w3.alloc (.cells #[.int .i64 m, .slice none 0 0] 24)) (.slice none 0 0) []) :=
    ⟨Nat.le_succ _, lt_of_block HZ3.out, blk_kept2 HZ3.out hg3, heap_alloc_new w3 _, OwnP.nil _ _, HB3.out.trans (Below.mono hg3 HB3.out.size)⟩
  clear hg3
  go_upto_region 3 with (fail)
  generalize (w3.alloc (.cells #[.int .i64 m, .slice none 0 0] 24)) = w4 at *
  clear x0 x1 lx HX3 HZ3 HB3
  generalize w3.heap.size = Q at *
  obtain ⟨N, rfl⟩ : ∃ N : Nat, m = (N : Int) := ⟨m.toNat, by have := HOK.out.n0; omega⟩
  have hN : N ≤ 40 := by have := HOK.out.n40; omega
  rw [Int.toNat_natCast] at HRV
  have HIN := hidIt (vL_of HOK.out)
  go_wp2_with fail
  go_loopw [4, 6, 22] (fun v4 _ _ wr => ∃ (k : Nat) (qs : List (Int × Int)) (za : Option Addr) (zc : Nat), v4 = .int .i64 (k : Int) ∧ k ≤ N ∧ Hid (qs = revL k ps) ∧ Hid (GR w (w.heap.size + 1) Q (N : Int) wr (.slice za qs.length zc) qs) ∧ Hid (wr.heap[w.heap.size]? = some (.cells #[.int .i64 (N : Int), .slice a' ps.length c'] 24 (0, 0)))) (fun v4 _ _ _ => N - (intOf v4).toNat)
  case atStart => exact ⟨0, [], none, 0, (by first | rfl | trivial), Nat.zero_le _, (rfl : _ = _), HGR.out, HX4.out⟩
  case round =>
    clear HGR HX4
    obtain ⟨k, qs, za, zc, rfl, hk, HQ, HG, HX⟩ := hrel
    have hkI0 : (0 : Int) ≤ (k : Int) := by omega
    obtain ⟨x0, x1⟩ := And.intro (cell_two0 HX.out) (cell_two1 HX.out)
    have lx := lt_of_block HX.out
    by_cases hlt : k < N
    · have hkI : (k : Int) < (N : Int) := by omega
      have HP := hidIt (HV.out.below HG.out.bel)
      go_wp2_with fail
      refine (rgAttackers_own (N : Int) _ ps (k : Int) _ HP.out HLN.out).mono ?_
      rintro e w5 ⟨v5, rfl, hil, hb⟩
      rw [HIN.out] at hil
      obtain ⟨la, lc, rfl, -⟩ := hil.il.ic
      have HIO := hidIt (owns_mono hil (Nat.zero_le _))
      have HG5 := hidIt (HG.out.go hb)
      have HX5 := hidIt (blk_kept2 HX.out hb)
      have HUP := hidIt (revL_up ps k)
      have HLE := hidIt (revL_le ps (k + 1))
      have HIL2 := hidIt (inL_len ps (k : Int))
      have HSM : Hid ((k + 1) * ps.length ≤ 40 * 1000) := Nat.mul_le_mul (by omega) HLN.out
      have HIB : Hid (∀ g, (Value.slice la (inL ps (k : Int)).length lc).ownBlock = some g → Q < g) := fun g e => Nat.lt_of_lt_of_le HG.out.lt (owns_blk hil g e).1
      clear hil hb HP HG HX x0 x1 lx
      generalize inL ps (k : Int) = zs at *
      obtain ⟨Z, hZ⟩ : ∃ Z, Z = zs.length := ⟨_, rfl⟩
      have HZZ := hidIt hZ
      rw [← hZ] at HIB ⊢
      have HIO5 : Hid (World.ownsRow w5 0 3 1 (.slice la Z lc) Z (zs.map (Value.int .i64))) := by
        have h := HIO.out
        unfold OwnI at h
        rw [← hZ] at h
        exact h
      clear hZ HIO
      have hZb : Z ≤ 1000 := by have := HZZ.out; have := HIL2.out; have := HLN.out; omega
      go_wp2_with fail
      go_loopw [6, 22] (fun _ vj wr => ∃ (j : Nat) (rs : List (Int × Int)) (ra : Option Addr) (rc : Nat), vj = .int .i64 (j : Int) ∧ j ≤ Z ∧ Hid (rs = qs ++ (zs.take j).map fun j => ((k : Int), j)) ∧ Hid (GR w (w.heap.size + 1) Q (N : Int) wr (.slice ra rs.length rc) rs) ∧ Hid (wr.heap[w.heap.size]? = some (.cells #[.int .i64 (N : Int), .slice a' ps.length c'] 24 (0, 0))) ∧ Hid (World.ownsRow wr 0 3 1 (.slice la Z lc) Z (zs.map (Value.int .i64)))) (fun _ vj _ => Z - (intOf vj).toNat)
      case atStart => exact ⟨0, qs, za, zc, (by first | rfl | trivial), Nat.zero_le _, (by show _ = _; simp), HG5.out, HX5.out, HIO5.out⟩
      case round =>
        clear HG5 HX5 HIO5
        obtain ⟨j, rs, ra, rc, rfl, hj, HR, HG, HX, HIO⟩ := hrel
        have hjI0 : (0 : Int) ≤ (j : Int) := by omega
        have hrl : rs.length ≤ 100000 := by
          have h1 := congrArg List.length HR.out
          rw [List.length_append, List.length_map, List.length_take, HQ.out] at h1
          have h2 := congrArg List.length HUP.out
          rw [List.length_append, List.length_map] at h2
          have := HLE.out
          have := HSM.out
          have := HZZ.out
          omega
        by_cases hjl : j < Z
        · have hjI : (j : Int) < (Z : Int) := by omega
          have HJL : Hid (j < zs.length) := by show j < _; rw [← HZZ.out]; exact hjl
          obtain ⟨x, hx⟩ : ∃ x, x = zs[j]'HJL.out := ⟨_, rfl⟩
          obtain ⟨b, rfl, lb, hc⟩ : ∃ b, la = some ⟨b, 0, none⟩ ∧ b < wr.heap.size ∧ wr.cell? ⟨b, j, none⟩ = some (.int .i64 x) := by
            rcases HIO.out.2 with ⟨-, h0⟩ | ⟨g, cap, cur, hv, -, hg, -⟩
            · omega
            · injection hv with h1 h2 h3
              subst h1
              refine ⟨g, rfl, lt_of_block hg, owns_cell HIO.out rfl j _ ?_⟩
              rw [List.getElem?_map, List.getElem?_eq_getElem HJL.out, hx]
              rfl
          have HE : Hid (rs ++ [((k : Int), x)] = qs ++ (zs.take (j + 1)).map fun j => ((k : Int), j)) := by
            show _ = _
            rw [List.take_succ_eq_append_getElem HJL.out, List.map_append, HR.out, hx, List.append_assoc]
            rfl
          clear hx
          obtain ⟨z0, z1⟩ := And.intro (cell_two0 HG.out.box) (cell_two1 HG.out.box)
          have lz := lt_of_block HG.out.box
          have hg2 := bgrow wr (.cells #[.int .i64 (k : Int), .int .i64 x] 49)
          have HG7 := hidIt (HG.out.go hg2)
          have HX7 := hidIt (blk_kept2 HX.out hg2)
          have HI7 := hidIt (owns_kept HIO.out (w' := wr.alloc (.cells #[.int .i64 (k : Int), .int .i64 x] 49)) fun g e => hg2.block g (owns_blk HIO.out g e).2)
          have hsz7 := HG7.out.lt
          clear hg2 HG HX HIO
          obtain ⟨L, hL⟩ : ∃ L, L = rs.length := ⟨_, rfl⟩
          have HLL := hidIt hL
          rw [← hL] at hrl z1 HG7
          clear hL
          have HO7 : Hid (World.ownsRow (wr.alloc (.cells #[.int .i64 (k : Int), .int .i64 x] 49)) (Q + 1) 49 2 (.slice ra L rc) L (rs.flatMap encP)) := by
            have h := HG7.out.own
            unfold OwnP at h
            rw [← HLL.out] at h
            exact h
          go_wp2_with (at_builtin; refine Hid.out ?_)
          refine hidIt ?_
          refine wpList_append_kb rfl _ _ elemP rfl (Q + 1) (.slice ra L rc) L _ rfl HO7.out _ 1 rfl #[.int .i64 (k : Int), .int .i64 x] 49 (heap_alloc_new _ _) rfl (one_of (by rfl)) (by omega) hsz7 ?_
          intro g8 c8 w8 hown8 hg8 hbl8
          have HL8 : Hid ((rs ++ [((k : Int), x)]).length = L + 1) := by show _ = _; rw [List.length_append, HLL.out]; rfl
          have HG8 : Hid (GR w (w.heap.size + 1) Q (N : Int) (w8.setCell ⟨Q, 1, none⟩ (.slice (some ⟨g8, 0, none⟩) (L + 1) c8)) (.slice (some ⟨g8, 0, none⟩) (L + 1) c8) (rs ++ [((k : Int), x)])) :=
            GR.app (x := ((k : Int), x)) HG7.out (by rw [← HLL.out]; exact hown8) hg8
          have HX8 : Hid ((w8.setCell ⟨Q, 1, none⟩ (.slice (some ⟨g8, 0, none⟩) (L + 1) c8)).heap[w.heap.size]? = some (.cells #[.int .i64 (N : Int), .slice a' ps.length c'] 24 (0, 0))) :=
            (GR.keep HG7.out hg8 (by have := HG7.out.pq; omega)).trans HX7.out
          have HI8 : Hid (World.ownsRow (w8.setCell ⟨Q, 1, none⟩ (.slice (some ⟨g8, 0, none⟩) (L + 1) c8)) 0 3 1 (.slice (some ⟨b, 0, none⟩) Z lc) Z (zs.map (Value.int .i64))) :=
            owns_kept HI7.out fun g e => by
              have h1 := HIB.out g e
              rw [Below.heap_setCell w8 ⟨Q, 1, none⟩ _ g (by show g ≠ Q; omega)]
              exact hg8.block g (owns_blk HI7.out g e).2 (fun e2 => blk_types HO7.out HI7.out (by decide) e2.symm e)
          have hOB : ∀ g, (Value.slice ra L rc).ownBlock = some g → Q + 1 ≤ g := fun g e => (owns_blk HO7.out g e).1
          have hQ8 := (hg8.block Q (lt_of_block HG7.out.box) (fun e => by have := hOB _ e.symm; omega)).trans HG7.out.box
          have k0 := cell_two0 hQ8
          have k1 := cell_two1 hQ8
          have lk := lt_of_block hQ8
          have f8 := free_any hQ8 1
          clear hown8 hg8 hbl8 hOB HO7 HG7 hsz7 hQ8 z0 z1 lz
          go_wp2_with fail
          go_roundw
          case rel => exact ⟨j + 1, rs ++ [((k : Int), x)], some ⟨g8, 0, none⟩, c8, by go_num, by omega, HE.out, (by rw [HL8.out]; exact HG8.out), HX8.out, HI8.out⟩
          case measure => simp [intOf]; omega
        · have hjI : ¬ (j : Int) < (Z : Int) := by omega
          have hjZ : j = Z := by omega
          have HE : Hid (rs = revL (k + 1) ps) := by show _ = _; rw [HUP.out, HR.out, hjZ, HZZ.out, List.take_length, HQ.out]
          clear hjZ
          go_wp2_with fail
          go_roundw
          case rel => exact ⟨k + 1, rs, ra, rc, by go_num, by omega, HE.out, HG.out, HX.out⟩
          case measure => simp [intOf]; omega
    · have hkI : ¬ (k : Int) < (N : Int) := by omega
      have hkN : k = N := by omega
      subst hkN
      have HE : Hid (qs = rvL n xs) := by show _ = _; rw [HQ.out, HRV.out]
      obtain ⟨z0, z1⟩ := And.intro (cell_two0 HG.out.box) (cell_two1 HG.out.box)
      have lz := lt_of_block HG.out.box
      have r0 := cell_two0 HG.out.res
      have r1 := cell_two1 HG.out.res
      have lr := lt_of_block HG.out.res
      have g0 := free_any HG.out.res 0
      have g1 := free_any HG.out.res 1
      have HBF : Hid (∀ A B : Value, Below w.heap.size w ((wr.setCell ⟨w.heap.size + 1, 0, none⟩ A).setCell ⟨w.heap.size + 1, 1, none⟩ B)) := fun A B => below_set5 (below_set5 HG.out.bel (Nat.le_succ _)) (Nat.le_succ _)
      have HPF : Hid (∀ A B : Value, PairsAt ((wr.setCell ⟨w.heap.size + 1, 0, none⟩ A).setCell ⟨w.heap.size + 1, 1, none⟩ B) (.slice za qs.length zc) qs) := fun A B => by
        have ho : OwnP ((wr.setCell ⟨w.heap.size + 1, 0, none⟩ A).setCell ⟨w.heap.size + 1, 1, none⟩ B) (Q + 1) (.slice za qs.length zc) qs := owns_kept HG.out.own fun g e => by
          have := (owns_blk HG.out.own g e).1
          have := HG.out.pq
          rw [Below.heap_setCell _ _ _ _ (by show g ≠ w.heap.size + 1; omega), Below.heap_setCell _ _ _ _ (by show g ≠ w.heap.size + 1; omega)]
        exact ho.own.lits
      clear hlt
      go_wp2_with fail
      refine bodyPost_ret (v := .agg #[.int .i64 (k : Int), .slice za qs.length zc]) (by simp [results, Tryd.results17, go_sem, r0, r1, lr]) rfl ?_
      rw [HMM.out, ← HE.out]
      exact ⟨_, rfl, HPF.out _ _, HBF.out _ _⟩
end Go.Proofs.YtjdnfphbddnhkaaDoor

namespace Go.Proofs.YtjdnfphbddnhkaaDoor
set_option linter.unusedVariables false
set_option linter.unusedSimpArgs false
open Go Go.RowKit Go.Sort

/-- The number of nodes behind the cut. -/
def cutN (n : Int) : Int := if 6 < n then 6 else n

theorem PairsAt.take {w : World} {b off cap : Nat} {xs : List (Int × Int)} (m : Nat) (hm : m ≤ xs.length) (h2 : xs.length ≤ cap) (h3 : cap ≤ maxLen) (h4 : b < w.heap.size)
    (h5 : ∀ i, i < xs.length → w.cell? ⟨b, off + i * 2, none⟩ = some (.int .i64 (xs[i]!).1) ∧ w.cell? ⟨b, off + i * 2 + 1, none⟩ = some (.int .i64 (xs[i]!).2)) : PairsAt w (.slice (some ⟨b, off, none⟩) m cap) (xs.take m) := by
  have hl : (xs.take m).length = m := by rw [List.length_take]; omega
  refine .inr ⟨b, off, cap, by rw [hl], by omega, h3, h4, fun i hi => ?_⟩
  rw [hl] at hi
  have e : (xs.take m)[i]! = xs[i]! := by
    rw [getElem!_pos _ _ (by omega), getElem!_pos _ _ (by omega), List.getElem_take]
  rw [e]
  exact h5 i (by omega)

set_option maxRecDepth 100000 in
set_option maxHeartbeats 2000000 in
theorem kCut_any (n : Int) (v : Value) (xs : List (Int × Int)) (w : World) (h : PairsAt w v xs) (hl : xs.length ≤ 1000) :
    Calls Tryd.prog 9 #[.agg #[.int .i64 n, v], .int .i64 6] w fun e w' => ∃ v', e = .returned (.agg #[.int .i64 (cutN n), v']) ∧ PairsAt w' v' (xs.take 60) ∧ Below w.heap.size w w' := by
  obtain ⟨⟨hX, hZ⟩, hB⟩ := two_boxes w (.cells #[.int .i64 n, v] 24) (.cells #[.int .i64 0, .slice none 0 0] 24)
  have HX := hidIt hX
  have HZ := hidIt hZ
  have HB := hidIt hB
  have HP := hidIt h
  obtain ⟨M, hM⟩ : ∃ M, M = xs.length := ⟨_, rfl⟩
  have HM := hidIt hM
  clear hX hZ hB
  obtain ⟨a, c, rfl, -⟩ := h.form
  have HCA : Hid (a = none ∧ c = 0 ∧ xs = [] ∨ ∃ b off, a = some ⟨b, off, none⟩ ∧ xs.length ≤ c ∧ c ≤ maxLen ∧ ∀ m, m ≤ xs.length → PairsAt w (.slice (some ⟨b, off, none⟩) m c) (xs.take m)) := by
    rcases h with ⟨h1, h2⟩ | ⟨b, off, cap, h1, h2, h3, h4, h5⟩
    · injection h1 with e1 e2 e3
      exact .inl ⟨e1, e3, h2⟩
    · injection h1 with e1 e2 e3
      subst e1 e3
      exact .inr ⟨b, off, rfl, h2, h3, fun m hm => PairsAt.take m hm h2 h3 h4 h5⟩
  clear h
  go_enter Tryd.func9, Tryd.ntmps9
  go_upto_region 1 with (fail)
  generalize ((w.alloc (.cells #[.int .i64 n, .slice a xs.length c] 24)).alloc (.cells #[.int .i64 0, .slice none 0 0] 24)) = w1 at *
  rw [← hM] at HX HCA hl HP ⊢
  clear hM
  obtain ⟨x0, x1⟩ := And.intro (cell_two0 HX.out) (cell_two1 HX.out)
  have lx := lt_of_block HX.out
  have f0 := free_any HX.out 0
  by_cases hn : 6 < n
  · have hd : decide (6 < n) = true := decide_eq_true hn
    have HIF : Hid (cutN n = 6) := (if_pos hn : _ = _)
    have HX2 : Hid ((w1.setCell ⟨w.heap.size, 0, none⟩ (.int .i64 6)).heap[w.heap.size]? = some (.cells #[.int .i64 6, .slice a M c] 24 (0, 0))) := by
      show _ = _
      have := set_cells (i := 0) (u := .int .i64 6) HX.out
      simpa using this
    have HZ2 : Hid ((w1.setCell ⟨w.heap.size, 0, none⟩ (.int .i64 6)).heap[w.heap.size + 1]? = some (.cells #[.int .i64 0, .slice none 0 0] 24 (0, 0))) := by
      show _ = _
      rw [Below.heap_setCell _ _ _ _ (by show w.heap.size + 1 ≠ w.heap.size; omega)]
      exact HZ.out
    have HB2 := hidIt (below_set5 (i := 0) (u := .int .i64 6) HB.out (Nat.le_refl _))
    clear hn
    go_upto_region 3 with (fail)
    generalize (w1.setCell ⟨w.heap.size, 0, none⟩ (.int .i64 6)) = w2 at *
    clear x0 x1 lx f0
    obtain ⟨x0, x1⟩ := And.intro (cell_two0 HX2.out) (cell_two1 HX2.out)
    have lx := lt_of_block HX2.out
    have f1 := free_any HX2.out 1
    rcases HCA.out with ⟨rfl, rfl, hx⟩ | ⟨b, off, rfl, hc1, hc2, hP⟩
    · obtain rfl : M = 0 := by rw [HM.out, hx]; rfl
      have HXS := hidIt hx
      clear hx
      have HX3 : Hid ((w2.setCell ⟨w.heap.size, 1, none⟩ (.slice none 0 0)).heap[w.heap.size]? = some (.cells #[.int .i64 6, .slice none 0 0] 24 (0, 0))) := by
        show _ = _
        have := set_cells (i := 1) (u := .slice none 0 0) HX2.out
        simpa using this
      have HZ3 : Hid ((w2.setCell ⟨w.heap.size, 1, none⟩ (.slice none 0 0)).heap[w.heap.size + 1]? = some (.cells #[.int .i64 0, .slice none 0 0] 24 (0, 0))) := by
        show _ = _
        rw [Below.heap_setCell _ _ _ _ (by show w.heap.size + 1 ≠ w.heap.size; omega)]
        exact HZ2.out
      have HB3 := hidIt (below_set5 (i := 1) (u := .slice none 0 0) HB2.out (Nat.le_refl _))
      have hmin : min (0 : Int) (60 : Int) = 0 := by omega
      go_upto_region 4 with (fail)
      try simp only [hmin, Int.toNat_natCast, Int.toNat_zero, Int.reduceToNat]
      generalize (w2.setCell ⟨w.heap.size, 1, none⟩ (.slice none 0 0)) = w3 at *
      clear x0 x1 lx f1
      obtain ⟨x0, x1⟩ := And.intro (cell_two0 HX3.out) (cell_two1 HX3.out)
      have lx := lt_of_block HX3.out
      have r0 := cell_two0 HZ3.out
      have r1 := cell_two1 HZ3.out
      have lr := lt_of_block HZ3.out
      have g0 := free_any HZ3.out 0
      have g1 := free_any HZ3.out 1
      have HBF : Hid (∀ A B : Value, Below w.heap.size w ((w3.setCell ⟨w.heap.size + 1, 0, none⟩ A).setCell ⟨w.heap.size + 1, 1, none⟩ B)) := fun A B => below_set5 (below_set5 HB3.out (Nat.le_succ _)) (Nat.le_succ _)
      go_wp2_with fail
      refine bodyPost_ret (v := .agg #[.int .i64 6, .slice none 0 0]) (by simp [results, Tryd.results9, go_sem, r0, r1, lr]) rfl ?_
      rw [HIF.out]
      exact ⟨_, rfl, (by rw [HXS.out]; exact .inl ⟨rfl, rfl⟩), HBF.out _ _⟩
    · have HPP := hidIt hP
      clear hP
      by_cases h60 : M ≤ 60
      · have h60b : ¬ (60 : Int) < (M : Int) := by omega
        have HPM : Hid (xs.take 60 = xs.take M) := by show _ = _; rw [List.take_of_length_le (by have := HM.out; omega), List.take_of_length_le (by have := HM.out; omega)]
        have HX3 : Hid ((w2.setCell ⟨w.heap.size, 1, none⟩ (.slice (some ⟨b, off, none⟩) M c)).heap[w.heap.size]? = some (.cells #[.int .i64 6, .slice (some ⟨b, off, none⟩) M c] 24 (0, 0))) := by
          show _ = _
          have := set_cells (i := 1) (u := .slice (some ⟨b, off, none⟩) M c) HX2.out
          simpa using this
        have HZ3 : Hid ((w2.setCell ⟨w.heap.size, 1, none⟩ (.slice (some ⟨b, off, none⟩) M c)).heap[w.heap.size + 1]? = some (.cells #[.int .i64 0, .slice none 0 0] 24 (0, 0))) := by
          show _ = _
          rw [Below.heap_setCell _ _ _ _ (by show w.heap.size + 1 ≠ w.heap.size; omega)]
          exact HZ2.out
        have HB3 := hidIt (below_set5 (i := 1) (u := .slice (some ⟨b, off, none⟩) M c) HB2.out (Nat.le_refl _))
        have hmin : min (M : Int) (60 : Int) = (M : Int) := by omega
        go_upto_region 4 with (fail)
        try simp only [hmin, Int.toNat_natCast, Int.toNat_zero, Int.reduceToNat]
        generalize (w2.setCell ⟨w.heap.size, 1, none⟩ (.slice (some ⟨b, off, none⟩) M c)) = w3 at *
        clear x0 x1 lx f1
        obtain ⟨x0, x1⟩ := And.intro (cell_two0 HX3.out) (cell_two1 HX3.out)
        have lx := lt_of_block HX3.out
        have r0 := cell_two0 HZ3.out
        have r1 := cell_two1 HZ3.out
        have lr := lt_of_block HZ3.out
        have g0 := free_any HZ3.out 0
        have g1 := free_any HZ3.out 1
        have HBF : Hid (∀ A B : Value, Below w.heap.size w ((w3.setCell ⟨w.heap.size + 1, 0, none⟩ A).setCell ⟨w.heap.size + 1, 1, none⟩ B)) := fun A B => below_set5 (below_set5 HB3.out (Nat.le_succ _)) (Nat.le_succ _)
        go_wp2_with fail
        refine bodyPost_ret (v := .agg #[.int .i64 6, .slice (some ⟨b, off, none⟩) M c]) (by simp [results, Tryd.results9, go_sem, r0, r1, lr]) rfl ?_
        rw [HIF.out]
        exact ⟨_, rfl, (by rw [HPM.out]; exact (HPP.out M (Nat.le_refl _)).below (HBF.out _ _)), HBF.out _ _⟩
      · have h60b : (60 : Int) < (M : Int) := by omega
        have HX3 : Hid ((w2.setCell ⟨w.heap.size, 1, none⟩ (.slice (some ⟨b, off, none⟩) 60 c)).heap[w.heap.size]? = some (.cells #[.int .i64 6, .slice (some ⟨b, off, none⟩) 60 c] 24 (0, 0))) := by
          show _ = _
          have := set_cells (i := 1) (u := .slice (some ⟨b, off, none⟩) 60 c) HX2.out
          simpa using this
        have HZ3 : Hid ((w2.setCell ⟨w.heap.size, 1, none⟩ (.slice (some ⟨b, off, none⟩) 60 c)).heap[w.heap.size + 1]? = some (.cells #[.int .i64 0, .slice none 0 0] 24 (0, 0))) := by
          show _ = _
          rw [Below.heap_setCell _ _ _ _ (by show w.heap.size + 1 ≠ w.heap.size; omega)]
          exact HZ2.out
        have HB3 := hidIt (below_set5 (i := 1) (u := .slice (some ⟨b, off, none⟩) 60 c) HB2.out (Nat.le_refl _))
        have hmin : min (M : Int) (60 : Int) = 60 := by omega
        go_upto_region 4 with (fail)
        try simp only [hmin, Int.toNat_natCast, Int.toNat_zero, Int.reduceToNat]
        generalize (w2.setCell ⟨w.heap.size, 1, none⟩ (.slice (some ⟨b, off, none⟩) 60 c)) = w3 at *
        clear x0 x1 lx f1
        obtain ⟨x0, x1⟩ := And.intro (cell_two0 HX3.out) (cell_two1 HX3.out)
        have lx := lt_of_block HX3.out
        have r0 := cell_two0 HZ3.out
        have r1 := cell_two1 HZ3.out
        have lr := lt_of_block HZ3.out
        have g0 := free_any HZ3.out 0
        have g1 := free_any HZ3.out 1
        have HBF : Hid (∀ A B : Value, Below w.heap.size w ((w3.setCell ⟨w.heap.size + 1, 0, none⟩ A).setCell ⟨w.heap.size + 1, 1, none⟩ B)) := fun A B => below_set5 (below_set5 HB3.out (Nat.le_succ _)) (Nat.le_succ _)
        go_wp2_with fail
        refine bodyPost_ret (v := .agg #[.int .i64 6, .slice (some ⟨b, off, none⟩) 60 c]) (by simp [results, Tryd.results9, go_sem, r0, r1, lr]) rfl ?_
        rw [HIF.out]
        exact ⟨_, rfl, ((HPP.out 60 (by omega)).below (HBF.out _ _)), HBF.out _ _⟩
  · have hd : decide (6 < n) = false := decide_eq_false hn
    have HIF : Hid (cutN n = n) := (if_neg hn : _ = _)
    have HX2 := HX
    have HZ2 := HZ
    have HB2 := HB
    clear HX HZ HB
    go_upto_region 3 with (fail)
    obtain ⟨w2, hw2⟩ : ∃ w2, w2 = w1 := ⟨_, rfl⟩
    subst hw2
    clear x0 x1 lx f0
    obtain ⟨x0, x1⟩ := And.intro (cell_two0 HX2.out) (cell_two1 HX2.out)
    have lx := lt_of_block HX2.out
    have f1 := free_any HX2.out 1
    rcases HCA.out with ⟨rfl, rfl, hx⟩ | ⟨b, off, rfl, hc1, hc2, hP⟩
    · obtain rfl : M = 0 := by rw [HM.out, hx]; rfl
      have HXS := hidIt hx
      clear hx
      have HX3 : Hid ((w2.setCell ⟨w.heap.size, 1, none⟩ (.slice none 0 0)).heap[w.heap.size]? = some (.cells #[.int .i64 n, .slice none 0 0] 24 (0, 0))) := by
        show _ = _
        have := set_cells (i := 1) (u := .slice none 0 0) HX2.out
        simpa using this
      have HZ3 : Hid ((w2.setCell ⟨w.heap.size, 1, none⟩ (.slice none 0 0)).heap[w.heap.size + 1]? = some (.cells #[.int .i64 0, .slice none 0 0] 24 (0, 0))) := by
        show _ = _
        rw [Below.heap_setCell _ _ _ _ (by show w.heap.size + 1 ≠ w.heap.size; omega)]
        exact HZ2.out
      have HB3 := hidIt (below_set5 (i := 1) (u := .slice none 0 0) HB2.out (Nat.le_refl _))
      have hmin : min (0 : Int) (60 : Int) = 0 := by omega
      go_upto_region 4 with (fail)
      try simp only [hmin, Int.toNat_natCast, Int.toNat_zero, Int.reduceToNat]
      generalize (w2.setCell ⟨w.heap.size, 1, none⟩ (.slice none 0 0)) = w3 at *
      clear x0 x1 lx f1
      obtain ⟨x0, x1⟩ := And.intro (cell_two0 HX3.out) (cell_two1 HX3.out)
      have lx := lt_of_block HX3.out
      have r0 := cell_two0 HZ3.out
      have r1 := cell_two1 HZ3.out
      have lr := lt_of_block HZ3.out
      have g0 := free_any HZ3.out 0
      have g1 := free_any HZ3.out 1
      have HBF : Hid (∀ A B : Value, Below w.heap.size w ((w3.setCell ⟨w.heap.size + 1, 0, none⟩ A).setCell ⟨w.heap.size + 1, 1, none⟩ B)) := fun A B => below_set5 (below_set5 HB3.out (Nat.le_succ _)) (Nat.le_succ _)
      go_wp2_with fail
      refine bodyPost_ret (v := .agg #[.int .i64 n, .slice none 0 0]) (by simp [results, Tryd.results9, go_sem, r0, r1, lr]) rfl ?_
      rw [HIF.out]
      exact ⟨_, rfl, (by rw [HXS.out]; exact .inl ⟨rfl, rfl⟩), HBF.out _ _⟩
    · have HPP := hidIt hP
      clear hP
      by_cases h60 : M ≤ 60
      · have h60b : ¬ (60 : Int) < (M : Int) := by omega
        have HPM : Hid (xs.take 60 = xs.take M) := by show _ = _; rw [List.take_of_length_le (by have := HM.out; omega), List.take_of_length_le (by have := HM.out; omega)]
        have HX3 : Hid ((w2.setCell ⟨w.heap.size, 1, none⟩ (.slice (some ⟨b, off, none⟩) M c)).heap[w.heap.size]? = some (.cells #[.int .i64 n, .slice (some ⟨b, off, none⟩) M c] 24 (0, 0))) := by
          show _ = _
          have := set_cells (i := 1) (u := .slice (some ⟨b, off, none⟩) M c) HX2.out
          simpa using this
        have HZ3 : Hid ((w2.setCell ⟨w.heap.size, 1, none⟩ (.slice (some ⟨b, off, none⟩) M c)).heap[w.heap.size + 1]? = some (.cells #[.int .i64 0, .slice none 0 0] 24 (0, 0))) := by
          show _ = _
          rw [Below.heap_setCell _ _ _ _ (by show w.heap.size + 1 ≠ w.heap.size; omega)]
          exact HZ2.out
        have HB3 := hidIt (below_set5 (i := 1) (u := .slice (some ⟨b, off, none⟩) M c) HB2.out (Nat.le_refl _))
        have hmin : min (M : Int) (60 : Int) = (M : Int) := by omega
        go_upto_region 4 with (fail)
        try simp only [hmin, Int.toNat_natCast, Int.toNat_zero, Int.reduceToNat]
        generalize (w2.setCell ⟨w.heap.size, 1, none⟩ (.slice (some ⟨b, off, none⟩) M c)) = w3 at *
        clear x0 x1 lx f1
        obtain ⟨x0, x1⟩ := And.intro (cell_two0 HX3.out) (cell_two1 HX3.out)
        have lx := lt_of_block HX3.out
        have r0 := cell_two0 HZ3.out
        have r1 := cell_two1 HZ3.out
        have lr := lt_of_block HZ3.out
        have g0 := free_any HZ3.out 0
        have g1 := free_any HZ3.out 1
        have HBF : Hid (∀ A B : Value, Below w.heap.size w ((w3.setCell ⟨w.heap.size + 1, 0, none⟩ A).setCell ⟨w.heap.size + 1, 1, none⟩ B)) := fun A B => below_set5 (below_set5 HB3.out (Nat.le_succ _)) (Nat.le_succ _)
        go_wp2_with fail
        refine bodyPost_ret (v := .agg #[.int .i64 n, .slice (some ⟨b, off, none⟩) M c]) (by simp [results, Tryd.results9, go_sem, r0, r1, lr]) rfl ?_
        rw [HIF.out]
        exact ⟨_, rfl, (by rw [HPM.out]; exact (HPP.out M (Nat.le_refl _)).below (HBF.out _ _)), HBF.out _ _⟩
      · have h60b : (60 : Int) < (M : Int) := by omega
        have HX3 : Hid ((w2.setCell ⟨w.heap.size, 1, none⟩ (.slice (some ⟨b, off, none⟩) 60 c)).heap[w.heap.size]? = some (.cells #[.int .i64 n, .slice (some ⟨b, off, none⟩) 60 c] 24 (0, 0))) := by
          show _ = _
          have := set_cells (i := 1) (u := .slice (some ⟨b, off, none⟩) 60 c) HX2.out
          simpa using this
        have HZ3 : Hid ((w2.setCell ⟨w.heap.size, 1, none⟩ (.slice (some ⟨b, off, none⟩) 60 c)).heap[w.heap.size + 1]? = some (.cells #[.int .i64 0, .slice none 0 0] 24 (0, 0))) := by
          show _ = _
          rw [Below.heap_setCell _ _ _ _ (by show w.heap.size + 1 ≠ w.heap.size; omega)]
          exact HZ2.out
        have HB3 := hidIt (below_set5 (i := 1) (u := .slice (some ⟨b, off, none⟩) 60 c) HB2.out (Nat.le_refl _))
        have hmin : min (M : Int) (60 : Int) = 60 := by omega
        go_upto_region 4 with (fail)
        try simp only [hmin, Int.toNat_natCast, Int.toNat_zero, Int.reduceToNat]
        generalize (w2.setCell ⟨w.heap.size, 1, none⟩ (.slice (some ⟨b, off, none⟩) 60 c)) = w3 at *
        clear x0 x1 lx f1
        obtain ⟨x0, x1⟩ := And.intro (cell_two0 HX3.out) (cell_two1 HX3.out)
        have lx := lt_of_block HX3.out
        have r0 := cell_two0 HZ3.out
        have r1 := cell_two1 HZ3.out
        have lr := lt_of_block HZ3.out
        have g0 := free_any HZ3.out 0
        have g1 := free_any HZ3.out 1
        have HBF : Hid (∀ A B : Value, Below w.heap.size w ((w3.setCell ⟨w.heap.size + 1, 0, none⟩ A).setCell ⟨w.heap.size + 1, 1, none⟩ B)) := fun A B => below_set5 (below_set5 HB3.out (Nat.le_succ _)) (Nat.le_succ _)
        go_wp2_with fail
        refine bodyPost_ret (v := .agg #[.int .i64 n, .slice (some ⟨b, off, none⟩) 60 c]) (by simp [results, Tryd.results9, go_sem, r0, r1, lr]) rfl ?_
        rw [HIF.out]
        exact ⟨_, rfl, ((HPP.out 60 (by omega)).below (HBF.out _ _)), HBF.out _ _⟩
end Go.Proofs.YtjdnfphbddnhkaaDoor
