/- The program's functions on sets: ConflictFree, Defends, Step, Admissible, IsComplete, IsStable, Range. -/
import Derived.Test.YtihmdnbeonefcaaDoorZ4N1E

namespace Go.Proofs.YtihmdnbeonefcaaDoor
set_option linter.unusedVariables false
set_option linter.unusedSimpArgs false
open Go Go.RowKit Go.Sort

theorem OwnI.base {w : World} {B B' : Nat} {v : Value} {zs : List Int} (h : OwnI w B v zs) (hB : B' ≤ B) : OwnI w B' v zs :=
  ⟨h.1, by
    rcases h.2 with h0 | ⟨g, cap, cur, hv, hB2, h2⟩
    · exact .inl h0
    · exact .inr ⟨g, cap, cur, hv, Nat.le_trans hB hB2, h2⟩⟩
theorem below_drewNr {B : Nat} {w w' : World} (h : Below B w w') (m : Nat) : Below B w (w'.drewN m) := ⟨h.os, h.tape, h.output, h.size, h.block⟩
theorem eq_bv (S T : BitVec 64) : ((S.toNat : Int) == (T.toNat : Int)) = decide (S = T) := by
  rw [Bool.eq_iff_iff, beq_iff_eq, decide_eq_true_eq]
  exact ⟨bv_ext, fun h => by rw [h]⟩
/-- What Step and Range return. -/
def stepL (N : Nat) (ps : List (Int × Int)) (x : List Int) : List Int := if setB N x = true then setL N (dfX ps (memB x)) else []
def rangeL (N : Nat) (ps : List (Int × Int)) (x : List Int) : List Int := if setB N x = true then setL N (orX (memB x) (hitX ps (memB x))) else []

set_option maxRecDepth 100000 in
set_option maxHeartbeats 2000000 in
theorem qConflictFree_any (N : Nat) (v v2 : Value) (ps : List (Int × Int)) (x : List Int) (w : World) (h : PairsAt w v ps) (hok : GOk (N : Int) ps) (hpl : ps.length ≤ 100000) (hs : IL w v2 x) (hsl : x.length ≤ 100000) (hT : Tab w) :
    Calls Tryd.prog 16 #[.agg #[.int .i64 (N : Int), v], v2] w fun e w' => e = .returned (.bool (setB N x && cfX ps (memB x))) ∧ Below w.heap.size w w' := by
  have hB := bgrow w (.cells #[.int .i64 (N : Int), v] 27)
  have H1 := hidIt (h.below hB)
  have H2 := hidIt (hs.below hB)
  have HOK := hidIt hok
  have HPL := hidIt hpl
  have HSL := hidIt hsl
  have HT := hidIt hT
  have hN : N ≤ 40 := by have := hok.n40; omega
  obtain ⟨a, c, rfl, -⟩ := h.form
  obtain ⟨a2, c2, rfl, -⟩ := hs.form
  have HX := hidIt (heap_alloc_new w (.cells #[.int .i64 (N : Int), .slice a ps.length c] 27))
  have HB := hidIt hB
  obtain ⟨R, hR⟩ : ∃ R, R = (setB N x && cfX ps (memB x)) := ⟨_, rfl⟩
  have HM := hidIt hR
  rw [← hR]
  clear hR
  clear h hs hB hpl hsl hT hok
  go_enter Tryd.func16, Tryd.ntmps16
  go_upto_region 1 with (fail)
  generalize (w.alloc (.cells #[.int .i64 (N : Int), .slice a ps.length c] 27)) = w1 at *
  obtain ⟨P, hP⟩ : ∃ P, P = w.heap.size := ⟨_, rfl⟩
  have HP := hidIt hP
  rw [← hP] at HX ⊢
  clear hP
  obtain ⟨x0, x1⟩ := And.intro (cell_two0 HX.out) (cell_two1 HX.out)
  have lx := lt_of_block HX.out
  cases hset : setB N x
  · rw [hset] at HM
    have HC := hidIt (qRead_no N _ _ ps x w1 H1.out HOK.out HPL.out H2.out HSL.out hset)
    clear hset
    go_wp2_with fail
    refine HC.out.mono ?_
    rintro e w2 ⟨rfl, hb2⟩
    have HB2 := hidIt (HB.out.trans (Below.mono hb2 HB.out.size))
    have hg3 := bgrow w2 (.cells (aRow 0#64 fun _ => 0#64) 57)
    have HA3 : Hid (AtW (w2.alloc (.cells (aRow 0#64 fun _ => 0#64) 57)) w2.heap.size 0#64 fun _ => 0#64) := heap_alloc_new w2 _
    have HX3 := hidIt (blk_kept2 (blk_kept2 HX.out hb2) hg3)
    clear hb2 HC
    go_wp2_with (with_reducible refine at_store57 rfl ?_; refine Hid.out ?_)
    refine hidIt ?_
    refine wpList_store_at rfl (.tmp 5) (.tmp 12) rfl w2.heap.size rfl 0#64 (fun _ => 0#64) rfl HA3.out ?_
    intro w4 ha4 hb4
    have HB4 := hidIt ((HB2.out.trans (Below.mono hg3 HB2.out.size)).trans (hb4 _ HB2.out.size))
    clear ha4 hb4 hg3 x0 x1 lx
    go_wp2_with fail
    go_ret
    exact ⟨ret_bool HM.out.symm, HB4.out⟩
  · rw [hset] at HM
    have HC := hidIt (qRead_yes N _ _ ps x w1 H1.out HOK.out HPL.out H2.out HSL.out hset)
    
    clear hset
    go_wp2_with fail
    refine HC.out.mono ?_
    rintro e w2 ⟨rfl, hb2⟩
    have HB2 := hidIt (HB.out.trans (Below.mono hb2 HB.out.size))
    have hg3 := bgrow w2 (.cells (aRow 0#64 fun _ => 0#64) 57)
    have HA3 : Hid (AtW (w2.alloc (.cells (aRow 0#64 fun _ => 0#64) 57)) w2.heap.size 0#64 fun _ => 0#64) := heap_alloc_new w2 _
    have HX3 := hidIt (blk_kept2 (blk_kept2 HX.out hb2) hg3)
    have hPl := lt_of_block (blk_kept2 HX.out hb2)
    clear hb2 HC
    go_wp2_with (with_reducible refine at_store57 rfl ?_; refine Hid.out ?_)
    refine hidIt ?_
    refine wpList_store_at rfl (.tmp 5) (.tmp 12) rfl w2.heap.size rfl (bOf N allX) (attB ps) rfl HA3.out ?_
    intro w4 ha4 hb4
    have HB4 := hidIt ((HB2.out.trans (Below.mono hg3 HB2.out.size)).trans (hb4 _ HB2.out.size))
    have HA4 : Hid (AtkAt w4 w2.heap.size N (attB ps)) := ha4
    have HX4 : Hid (w4.heap[P]? = some (.cells #[.int .i64 (N : Int), .slice a ps.length c] 27 (0, 0))) := ((hb4 _ (Nat.le_refl _)).block P hPl).trans HX3.out
    have HT4 := hidIt (HT.out.go HB4.out)
    clear ha4 hb4 hg3 HA3 HX3 x0 x1 lx hPl
    generalize w2.heap.size = A at *
    go_wp2_with fail
    refine (qCf_any A N ps (memB x) w4 HA4.out HOK.out HT4.out).mono ?_
    rintro e w5 ⟨rfl, m, rfl⟩
    go_wp2_with fail
    go_ret
    exact ⟨by rw [HM.out]; rfl, below_drewNr HB4.out m⟩

set_option maxRecDepth 100000 in
set_option maxHeartbeats 2000000 in
theorem qAdmissible_any (N : Nat) (v v2 : Value) (ps : List (Int × Int)) (x : List Int) (w : World) (h : PairsAt w v ps) (hok : GOk (N : Int) ps) (hpl : ps.length ≤ 100000) (hs : IL w v2 x) (hsl : x.length ≤ 100000) (hT : Tab w) :
    Calls Tryd.prog 18 #[.agg #[.int .i64 (N : Int), v], v2] w fun e w' => e = .returned (.bool (setB N x && admX N ps (memB x))) ∧ Below w.heap.size w w' := by
  have hB := bgrow w (.cells #[.int .i64 (N : Int), v] 27)
  have H1 := hidIt (h.below hB)
  have H2 := hidIt (hs.below hB)
  have HOK := hidIt hok
  have HPL := hidIt hpl
  have HSL := hidIt hsl
  have HT := hidIt hT
  have hN : N ≤ 40 := by have := hok.n40; omega
  obtain ⟨a, c, rfl, -⟩ := h.form
  obtain ⟨a2, c2, rfl, -⟩ := hs.form
  have HX := hidIt (heap_alloc_new w (.cells #[.int .i64 (N : Int), .slice a ps.length c] 27))
  have HB := hidIt hB
  obtain ⟨R, hR⟩ : ∃ R, R = (setB N x && admX N ps (memB x)) := ⟨_, rfl⟩
  have HM := hidIt hR
  rw [← hR]
  clear hR
  clear h hs hB hpl hsl hT hok
  go_enter Tryd.func18, Tryd.ntmps18
  go_upto_region 1 with (fail)
  generalize (w.alloc (.cells #[.int .i64 (N : Int), .slice a ps.length c] 27)) = w1 at *
  obtain ⟨P, hP⟩ : ∃ P, P = w.heap.size := ⟨_, rfl⟩
  have HP := hidIt hP
  rw [← hP] at HX ⊢
  clear hP
  obtain ⟨x0, x1⟩ := And.intro (cell_two0 HX.out) (cell_two1 HX.out)
  have lx := lt_of_block HX.out
  cases hset : setB N x
  · rw [hset] at HM
    have HC := hidIt (qRead_no N _ _ ps x w1 H1.out HOK.out HPL.out H2.out HSL.out hset)
    clear hset
    go_wp2_with fail
    refine HC.out.mono ?_
    rintro e w2 ⟨rfl, hb2⟩
    have HB2 := hidIt (HB.out.trans (Below.mono hb2 HB.out.size))
    have hg3 := bgrow w2 (.cells (aRow 0#64 fun _ => 0#64) 57)
    have HA3 : Hid (AtW (w2.alloc (.cells (aRow 0#64 fun _ => 0#64) 57)) w2.heap.size 0#64 fun _ => 0#64) := heap_alloc_new w2 _
    have HX3 := hidIt (blk_kept2 (blk_kept2 HX.out hb2) hg3)
    clear hb2 HC
    go_wp2_with (with_reducible refine at_store57 rfl ?_; refine Hid.out ?_)
    refine hidIt ?_
    refine wpList_store_at rfl (.tmp 5) (.tmp 12) rfl w2.heap.size rfl 0#64 (fun _ => 0#64) rfl HA3.out ?_
    intro w4 ha4 hb4
    have HB4 := hidIt ((HB2.out.trans (Below.mono hg3 HB2.out.size)).trans (hb4 _ HB2.out.size))
    clear ha4 hb4 hg3 x0 x1 lx
    go_wp2_with fail
    go_ret
    exact ⟨ret_bool HM.out.symm, HB4.out⟩
  · rw [hset] at HM
    have HC := hidIt (qRead_yes N _ _ ps x w1 H1.out HOK.out HPL.out H2.out HSL.out hset)
    
    clear hset
    go_wp2_with fail
    refine HC.out.mono ?_
    rintro e w2 ⟨rfl, hb2⟩
    have HB2 := hidIt (HB.out.trans (Below.mono hb2 HB.out.size))
    have hg3 := bgrow w2 (.cells (aRow 0#64 fun _ => 0#64) 57)
    have HA3 : Hid (AtW (w2.alloc (.cells (aRow 0#64 fun _ => 0#64) 57)) w2.heap.size 0#64 fun _ => 0#64) := heap_alloc_new w2 _
    have HX3 := hidIt (blk_kept2 (blk_kept2 HX.out hb2) hg3)
    have hPl := lt_of_block (blk_kept2 HX.out hb2)
    clear hb2 HC
    go_wp2_with (with_reducible refine at_store57 rfl ?_; refine Hid.out ?_)
    refine hidIt ?_
    refine wpList_store_at rfl (.tmp 5) (.tmp 12) rfl w2.heap.size rfl (bOf N allX) (attB ps) rfl HA3.out ?_
    intro w4 ha4 hb4
    have HB4 := hidIt ((HB2.out.trans (Below.mono hg3 HB2.out.size)).trans (hb4 _ HB2.out.size))
    have HA4 : Hid (AtkAt w4 w2.heap.size N (attB ps)) := ha4
    have HX4 : Hid (w4.heap[P]? = some (.cells #[.int .i64 (N : Int), .slice a ps.length c] 27 (0, 0))) := ((hb4 _ (Nat.le_refl _)).block P hPl).trans HX3.out
    have HT4 := hidIt (HT.out.go HB4.out)
    clear ha4 hb4 hg3 HA3 HX3 x0 x1 lx hPl
    generalize w2.heap.size = A at *
    go_wp2_with fail
    refine (qAdm_any A N ps (memB x) w4 HA4.out HOK.out HT4.out).mono ?_
    rintro e w5 ⟨rfl, m, rfl⟩
    go_wp2_with fail
    go_ret
    exact ⟨by rw [HM.out]; rfl, below_drewNr HB4.out m⟩

set_option maxRecDepth 100000 in
set_option maxHeartbeats 2000000 in
theorem qIsComplete_any (N : Nat) (v v2 : Value) (ps : List (Int × Int)) (x : List Int) (w : World) (h : PairsAt w v ps) (hok : GOk (N : Int) ps) (hpl : ps.length ≤ 100000) (hs : IL w v2 x) (hsl : x.length ≤ 100000) (hT : Tab w) :
    Calls Tryd.prog 20 #[.agg #[.int .i64 (N : Int), v], v2] w fun e w' => e = .returned (.bool (setB N x && compX N ps (memB x))) ∧ Below w.heap.size w w' := by
  have hB := bgrow w (.cells #[.int .i64 (N : Int), v] 27)
  have H1 := hidIt (h.below hB)
  have H2 := hidIt (hs.below hB)
  have HOK := hidIt hok
  have HPL := hidIt hpl
  have HSL := hidIt hsl
  have HT := hidIt hT
  have hN : N ≤ 40 := by have := hok.n40; omega
  obtain ⟨a, c, rfl, -⟩ := h.form
  obtain ⟨a2, c2, rfl, -⟩ := hs.form
  have HX := hidIt (heap_alloc_new w (.cells #[.int .i64 (N : Int), .slice a ps.length c] 27))
  have HB := hidIt hB
  obtain ⟨R, hR⟩ : ∃ R, R = (setB N x && compX N ps (memB x)) := ⟨_, rfl⟩
  have HM := hidIt hR
  rw [← hR]
  clear hR
  clear h hs hB hpl hsl hT hok
  go_enter Tryd.func20, Tryd.ntmps20
  go_upto_region 1 with (fail)
  generalize (w.alloc (.cells #[.int .i64 (N : Int), .slice a ps.length c] 27)) = w1 at *
  obtain ⟨P, hP⟩ : ∃ P, P = w.heap.size := ⟨_, rfl⟩
  have HP := hidIt hP
  rw [← hP] at HX ⊢
  clear hP
  obtain ⟨x0, x1⟩ := And.intro (cell_two0 HX.out) (cell_two1 HX.out)
  have lx := lt_of_block HX.out
  cases hset : setB N x
  · rw [hset] at HM
    have HC := hidIt (qRead_no N _ _ ps x w1 H1.out HOK.out HPL.out H2.out HSL.out hset)
    clear hset
    go_wp2_with fail
    refine HC.out.mono ?_
    rintro e w2 ⟨rfl, hb2⟩
    have HB2 := hidIt (HB.out.trans (Below.mono hb2 HB.out.size))
    have hg3 := bgrow w2 (.cells (aRow 0#64 fun _ => 0#64) 57)
    have HA3 : Hid (AtW (w2.alloc (.cells (aRow 0#64 fun _ => 0#64) 57)) w2.heap.size 0#64 fun _ => 0#64) := heap_alloc_new w2 _
    have HX3 := hidIt (blk_kept2 (blk_kept2 HX.out hb2) hg3)
    clear hb2 HC
    go_wp2_with (with_reducible refine at_store57 rfl ?_; refine Hid.out ?_)
    refine hidIt ?_
    refine wpList_store_at rfl (.tmp 5) (.tmp 12) rfl w2.heap.size rfl 0#64 (fun _ => 0#64) rfl HA3.out ?_
    intro w4 ha4 hb4
    have HB4 := hidIt ((HB2.out.trans (Below.mono hg3 HB2.out.size)).trans (hb4 _ HB2.out.size))
    clear ha4 hb4 hg3 x0 x1 lx
    go_wp2_with fail
    go_ret
    exact ⟨ret_bool HM.out.symm, HB4.out⟩
  · rw [hset] at HM
    have HC := hidIt (qRead_yes N _ _ ps x w1 H1.out HOK.out HPL.out H2.out HSL.out hset)
    
    clear hset
    go_wp2_with fail
    refine HC.out.mono ?_
    rintro e w2 ⟨rfl, hb2⟩
    have HB2 := hidIt (HB.out.trans (Below.mono hb2 HB.out.size))
    have hg3 := bgrow w2 (.cells (aRow 0#64 fun _ => 0#64) 57)
    have HA3 : Hid (AtW (w2.alloc (.cells (aRow 0#64 fun _ => 0#64) 57)) w2.heap.size 0#64 fun _ => 0#64) := heap_alloc_new w2 _
    have HX3 := hidIt (blk_kept2 (blk_kept2 HX.out hb2) hg3)
    have hPl := lt_of_block (blk_kept2 HX.out hb2)
    clear hb2 HC
    go_wp2_with (with_reducible refine at_store57 rfl ?_; refine Hid.out ?_)
    refine hidIt ?_
    refine wpList_store_at rfl (.tmp 5) (.tmp 12) rfl w2.heap.size rfl (bOf N allX) (attB ps) rfl HA3.out ?_
    intro w4 ha4 hb4
    have HB4 := hidIt ((HB2.out.trans (Below.mono hg3 HB2.out.size)).trans (hb4 _ HB2.out.size))
    have HA4 : Hid (AtkAt w4 w2.heap.size N (attB ps)) := ha4
    have HX4 : Hid (w4.heap[P]? = some (.cells #[.int .i64 (N : Int), .slice a ps.length c] 27 (0, 0))) := ((hb4 _ (Nat.le_refl _)).block P hPl).trans HX3.out
    have HT4 := hidIt (HT.out.go HB4.out)
    clear ha4 hb4 hg3 HA3 HX3 x0 x1 lx hPl
    generalize w2.heap.size = A at *
    cases hc : cfX ps (memB x)
    · have HM0 : Hid (R = false) := by show _ = _; rw [HM.out, Bool.true_and]; unfold compX; rw [hc]; rfl
      have HF := hidIt (qCf_any A N ps (memB x) w4 HA4.out HOK.out HT4.out)
      rw [hc] at HF
      clear hc
      go_wp2_with fail
      refine HF.out.mono ?_
      rintro e w5 ⟨rfl, m, rfl⟩
      go_wp2_with fail
      go_ret
      exact ⟨ret_bool HM0.out.symm, below_drewNr HB4.out m⟩
    · have HM1 : Hid (R = (subX N (memB x) (dfX ps (memB x)) && subX N (dfX ps (memB x)) (memB x))) := by show _ = _; rw [HM.out, Bool.true_and]; unfold compX; rw [hc]; rfl
      have HF := hidIt (qCf_any A N ps (memB x) w4 HA4.out HOK.out HT4.out)
      rw [hc] at HF
      have HEQ : Hid ((((bOf N (dfX ps (memB x))).toNat : Int) == ((bOf N (memB x)).toNat : Int)) = R) := by
        show _ = _
        rw [eq_bv, eq_bits (by omega), HM1.out]
      clear hc
      go_wp2_with fail
      refine HF.out.mono ?_
      rintro e w5 ⟨rfl, m, rfl⟩
      go_wp2_with fail
      refine (qDefended_any A N ps (memB x) _ (HA4.out.drewN m) HOK.out (HT4.out.drewN m)).mono ?_
      rintro e w6 ⟨rfl, m2, rfl⟩
      go_wp2_with fail
      go_ret
      exact ⟨by rw [HEQ.out]; rfl, below_drewNr HB4.out _⟩

set_option maxRecDepth 100000 in
set_option maxHeartbeats 2000000 in
theorem qIsStable_any (N : Nat) (v v2 : Value) (ps : List (Int × Int)) (x : List Int) (w : World) (h : PairsAt w v ps) (hok : GOk (N : Int) ps) (hpl : ps.length ≤ 100000) (hs : IL w v2 x) (hsl : x.length ≤ 100000) (hT : Tab w) :
    Calls Tryd.prog 22 #[.agg #[.int .i64 (N : Int), v], v2] w fun e w' => e = .returned (.bool (setB N x && stabX N ps (memB x))) ∧ Below w.heap.size w w' := by
  have hB := bgrow w (.cells #[.int .i64 (N : Int), v] 27)
  have H1 := hidIt (h.below hB)
  have H2 := hidIt (hs.below hB)
  have HOK := hidIt hok
  have HPL := hidIt hpl
  have HSL := hidIt hsl
  have HT := hidIt hT
  have hN : N ≤ 40 := by have := hok.n40; omega
  obtain ⟨a, c, rfl, -⟩ := h.form
  obtain ⟨a2, c2, rfl, -⟩ := hs.form
  have HX := hidIt (heap_alloc_new w (.cells #[.int .i64 (N : Int), .slice a ps.length c] 27))
  have HB := hidIt hB
  obtain ⟨R, hR⟩ : ∃ R, R = (setB N x && stabX N ps (memB x)) := ⟨_, rfl⟩
  have HM := hidIt hR
  rw [← hR]
  clear hR
  clear h hs hB hpl hsl hT hok
  go_enter Tryd.func22, Tryd.ntmps22
  go_upto_region 1 with (fail)
  generalize (w.alloc (.cells #[.int .i64 (N : Int), .slice a ps.length c] 27)) = w1 at *
  obtain ⟨P, hP⟩ : ∃ P, P = w.heap.size := ⟨_, rfl⟩
  have HP := hidIt hP
  rw [← hP] at HX ⊢
  clear hP
  obtain ⟨x0, x1⟩ := And.intro (cell_two0 HX.out) (cell_two1 HX.out)
  have lx := lt_of_block HX.out
  cases hset : setB N x
  · rw [hset] at HM
    have HC := hidIt (qRead_no N _ _ ps x w1 H1.out HOK.out HPL.out H2.out HSL.out hset)
    clear hset
    go_wp2_with fail
    refine HC.out.mono ?_
    rintro e w2 ⟨rfl, hb2⟩
    have HB2 := hidIt (HB.out.trans (Below.mono hb2 HB.out.size))
    have hg3 := bgrow w2 (.cells (aRow 0#64 fun _ => 0#64) 57)
    have HA3 : Hid (AtW (w2.alloc (.cells (aRow 0#64 fun _ => 0#64) 57)) w2.heap.size 0#64 fun _ => 0#64) := heap_alloc_new w2 _
    have HX3 := hidIt (blk_kept2 (blk_kept2 HX.out hb2) hg3)
    clear hb2 HC
    go_wp2_with (with_reducible refine at_store57 rfl ?_; refine Hid.out ?_)
    refine hidIt ?_
    refine wpList_store_at rfl (.tmp 5) (.tmp 12) rfl w2.heap.size rfl 0#64 (fun _ => 0#64) rfl HA3.out ?_
    intro w4 ha4 hb4
    have HB4 := hidIt ((HB2.out.trans (Below.mono hg3 HB2.out.size)).trans (hb4 _ HB2.out.size))
    clear ha4 hb4 hg3 x0 x1 lx
    go_wp2_with fail
    go_quiet (fail)
    go_wp2_with fail
    go_ret
    exact ⟨ret_bool HM.out.symm, below_drewNr HB4.out _⟩
  · rw [hset] at HM
    have HC := hidIt (qRead_yes N _ _ ps x w1 H1.out HOK.out HPL.out H2.out HSL.out hset)
    
    clear hset
    go_wp2_with fail
    refine HC.out.mono ?_
    rintro e w2 ⟨rfl, hb2⟩
    have HB2 := hidIt (HB.out.trans (Below.mono hb2 HB.out.size))
    have hg3 := bgrow w2 (.cells (aRow 0#64 fun _ => 0#64) 57)
    have HA3 : Hid (AtW (w2.alloc (.cells (aRow 0#64 fun _ => 0#64) 57)) w2.heap.size 0#64 fun _ => 0#64) := heap_alloc_new w2 _
    have HX3 := hidIt (blk_kept2 (blk_kept2 HX.out hb2) hg3)
    have hPl := lt_of_block (blk_kept2 HX.out hb2)
    clear hb2 HC
    go_wp2_with (with_reducible refine at_store57 rfl ?_; refine Hid.out ?_)
    refine hidIt ?_
    refine wpList_store_at rfl (.tmp 5) (.tmp 12) rfl w2.heap.size rfl (bOf N allX) (attB ps) rfl HA3.out ?_
    intro w4 ha4 hb4
    have HB4 := hidIt ((HB2.out.trans (Below.mono hg3 HB2.out.size)).trans (hb4 _ HB2.out.size))
    have HA4 : Hid (AtkAt w4 w2.heap.size N (attB ps)) := ha4
    have HX4 : Hid (w4.heap[P]? = some (.cells #[.int .i64 (N : Int), .slice a ps.length c] 27 (0, 0))) := ((hb4 _ (Nat.le_refl _)).block P hPl).trans HX3.out
    have HT4 := hidIt (HT.out.go HB4.out)
    clear ha4 hb4 hg3 HA3 HX3 x0 x1 lx hPl
    generalize w2.heap.size = A at *
    have HQ : Hid (∀ w5 : World, AtkAt w5 A N (attB ps) → Tab w5 → Calls Tryd.prog 54 #[.pointer (some ⟨A, 0, none⟩), bv (bOf N (memB x))] w5 fun e w' => e = .returned (bv (bOf N (hitX ps (memB x)))) ∧ ∃ m, w' = w5.drewN m) := fun w5 h1 h2 => qAttacked_any A N ps (memB x) w5 h1 HOK.out h2
    have HN1 : Hid (bits .andNot .u64 ((bOf N allX).toNat : Int) ((bOf N (memB x)).toNat : Int) = ((bOf N (andX allX (notX (memB x)))).toNat : Int)) := by
      show _ = _
      rw [bits_andNot_bv, bOf_andNot (by omega)]
    have HEQ : Hid ((((bOf N (hitX ps (memB x))).toNat : Int) == ((bOf N (andX allX (notX (memB x)))).toNat : Int)) = R) := by
      show _ = _
      rw [eq_bv, stab_bits HOK.out, HM.out, Bool.true_and]
    have n0 := HA4.out.nodes
    have lA := HA4.out.lt
    go_wp2_with fail
    go_quiet (exact Calls.quiet_of (HQ.out _ HA4.out HT4.out))
    go_wp2_with fail
    go_ret
    exact ⟨by rw [HN1.out, HEQ.out]; rfl, below_drewNr HB4.out _⟩

set_option maxRecDepth 100000 in
set_option maxHeartbeats 2000000 in
theorem qStep_any (N : Nat) (v v2 : Value) (ps : List (Int × Int)) (x : List Int) (w : World) (h : PairsAt w v ps) (hok : GOk (N : Int) ps) (hpl : ps.length ≤ 100000) (hs : IL w v2 x) (hsl : x.length ≤ 100000) (hT : Tab w) :
    Calls Tryd.prog 25 #[.agg #[.int .i64 (N : Int), v], v2] w fun e w' => ∃ v', e = .returned v' ∧ OwnI w' w.heap.size v' (stepL N ps x) ∧ Below w.heap.size w w' := by
  have hB := bgrow w (.cells #[.int .i64 (N : Int), v] 27)
  have H1 := hidIt (h.below hB)
  have H2 := hidIt (hs.below hB)
  have HOK := hidIt hok
  have HPL := hidIt hpl
  have HSL := hidIt hsl
  have HT := hidIt hT
  have hN : N ≤ 40 := by have := hok.n40; omega
  obtain ⟨a, c, rfl, -⟩ := h.form
  obtain ⟨a2, c2, rfl, -⟩ := hs.form
  have HX := hidIt (heap_alloc_new w (.cells #[.int .i64 (N : Int), .slice a ps.length c] 27))
  have HB := hidIt hB
  have HM : Hid (stepL N ps x = if setB N x = true then setL N (dfX ps (memB x)) else []) := (rfl : _ = _)
  generalize stepL N ps x = R at *
  clear h hs hB hpl hsl hT hok
  go_enter Tryd.func25, Tryd.ntmps25
  go_upto_region 1 with (fail)
  generalize (w.alloc (.cells #[.int .i64 (N : Int), .slice a ps.length c] 27)) = w1 at *
  obtain ⟨P, hP⟩ : ∃ P, P = w.heap.size := ⟨_, rfl⟩
  have HP := hidIt hP
  rw [← hP] at HX ⊢
  clear hP
  obtain ⟨x0, x1⟩ := And.intro (cell_two0 HX.out) (cell_two1 HX.out)
  have lx := lt_of_block HX.out
  cases hset : setB N x
  · rw [hset] at HM
    have HC := hidIt (qRead_no N _ _ ps x w1 H1.out HOK.out HPL.out H2.out HSL.out hset)
    clear hset
    go_wp2_with fail
    refine HC.out.mono ?_
    rintro e w2 ⟨rfl, hb2⟩
    have HB2 := hidIt (HB.out.trans (Below.mono hb2 HB.out.size))
    have hg3 := bgrow w2 (.cells (aRow 0#64 fun _ => 0#64) 57)
    have HA3 : Hid (AtW (w2.alloc (.cells (aRow 0#64 fun _ => 0#64) 57)) w2.heap.size 0#64 fun _ => 0#64) := heap_alloc_new w2 _
    have HX3 := hidIt (blk_kept2 (blk_kept2 HX.out hb2) hg3)
    clear hb2 HC
    go_wp2_with (with_reducible refine at_store57 rfl ?_; refine Hid.out ?_)
    refine hidIt ?_
    refine wpList_store_at rfl (.tmp 5) (.tmp 12) rfl w2.heap.size rfl 0#64 (fun _ => 0#64) rfl HA3.out ?_
    intro w4 ha4 hb4
    have HB4 := hidIt ((HB2.out.trans (Below.mono hg3 HB2.out.size)).trans (hb4 _ HB2.out.size))
    clear ha4 hb4 hg3 x0 x1 lx
    go_wp2_with fail
    go_ret
    rw [HM.out]
    exact ⟨_, rfl, OwnI.nil _ _, HB4.out⟩
  · rw [hset] at HM
    have HC := hidIt (qRead_yes N _ _ ps x w1 H1.out HOK.out HPL.out H2.out HSL.out hset)
    
    clear hset
    go_wp2_with fail
    refine HC.out.mono ?_
    rintro e w2 ⟨rfl, hb2⟩
    have HB2 := hidIt (HB.out.trans (Below.mono hb2 HB.out.size))
    have hg3 := bgrow w2 (.cells (aRow 0#64 fun _ => 0#64) 57)
    have HA3 : Hid (AtW (w2.alloc (.cells (aRow 0#64 fun _ => 0#64) 57)) w2.heap.size 0#64 fun _ => 0#64) := heap_alloc_new w2 _
    have HX3 := hidIt (blk_kept2 (blk_kept2 HX.out hb2) hg3)
    have hPl := lt_of_block (blk_kept2 HX.out hb2)
    clear hb2 HC
    go_wp2_with (with_reducible refine at_store57 rfl ?_; refine Hid.out ?_)
    refine hidIt ?_
    refine wpList_store_at rfl (.tmp 5) (.tmp 12) rfl w2.heap.size rfl (bOf N allX) (attB ps) rfl HA3.out ?_
    intro w4 ha4 hb4
    have HB4 := hidIt ((HB2.out.trans (Below.mono hg3 HB2.out.size)).trans (hb4 _ HB2.out.size))
    have HA4 : Hid (AtkAt w4 w2.heap.size N (attB ps)) := ha4
    have HX4 : Hid (w4.heap[P]? = some (.cells #[.int .i64 (N : Int), .slice a ps.length c] 27 (0, 0))) := ((hb4 _ (Nat.le_refl _)).block P hPl).trans HX3.out
    have HT4 := hidIt (HT.out.go HB4.out)
    clear ha4 hb4 hg3 HA3 HX3 x0 x1 lx hPl
    generalize w2.heap.size = A at *
    have HMI := hidIt (ints_bOf (N := N) (by omega) (dfX ps (memB x)))
    go_wp2_with fail
    refine (qDefended_any A N ps (memB x) w4 HA4.out HOK.out HT4.out).mono ?_
    rintro e w5 ⟨rfl, m, rfl⟩
    go_wp2_with fail
    refine (qElements_any _ _ (HT4.out.drewN m)).mono ?_
    rintro e w6 ⟨v', rfl, ho, hb6⟩
    have HB6 := hidIt ((below_drewNr HB4.out m).trans (Below.mono hb6 HB4.out.size))
    have HO6 := hidIt (ho.base (B' := w.heap.size) HB4.out.size)
    clear hb6 ho
    go_wp2_with fail
    go_ret
    rw [HM.out, if_pos trivial, ← HMI.out]
    exact ⟨_, rfl, HO6.out, HB6.out⟩

set_option maxRecDepth 100000 in
set_option maxHeartbeats 2000000 in
theorem qRange_any (N : Nat) (v v2 : Value) (ps : List (Int × Int)) (x : List Int) (w : World) (h : PairsAt w v ps) (hok : GOk (N : Int) ps) (hpl : ps.length ≤ 100000) (hs : IL w v2 x) (hsl : x.length ≤ 100000) (hT : Tab w) :
    Calls Tryd.prog 27 #[.agg #[.int .i64 (N : Int), v], v2] w fun e w' => ∃ v', e = .returned v' ∧ OwnI w' w.heap.size v' (rangeL N ps x) ∧ Below w.heap.size w w' := by
  have hB := bgrow w (.cells #[.int .i64 (N : Int), v] 27)
  have H1 := hidIt (h.below hB)
  have H2 := hidIt (hs.below hB)
  have HOK := hidIt hok
  have HPL := hidIt hpl
  have HSL := hidIt hsl
  have HT := hidIt hT
  have hN : N ≤ 40 := by have := hok.n40; omega
  obtain ⟨a, c, rfl, -⟩ := h.form
  obtain ⟨a2, c2, rfl, -⟩ := hs.form
  have HX := hidIt (heap_alloc_new w (.cells #[.int .i64 (N : Int), .slice a ps.length c] 27))
  have HB := hidIt hB
  have HM : Hid (rangeL N ps x = if setB N x = true then setL N (orX (memB x) (hitX ps (memB x))) else []) := (rfl : _ = _)
  generalize rangeL N ps x = R at *
  clear h hs hB hpl hsl hT hok
  go_enter Tryd.func27, Tryd.ntmps27
  go_upto_region 1 with (fail)
  generalize (w.alloc (.cells #[.int .i64 (N : Int), .slice a ps.length c] 27)) = w1 at *
  obtain ⟨P, hP⟩ : ∃ P, P = w.heap.size := ⟨_, rfl⟩
  have HP := hidIt hP
  rw [← hP] at HX ⊢
  clear hP
  obtain ⟨x0, x1⟩ := And.intro (cell_two0 HX.out) (cell_two1 HX.out)
  have lx := lt_of_block HX.out
  cases hset : setB N x
  · rw [hset] at HM
    have HC := hidIt (qRead_no N _ _ ps x w1 H1.out HOK.out HPL.out H2.out HSL.out hset)
    clear hset
    go_wp2_with fail
    refine HC.out.mono ?_
    rintro e w2 ⟨rfl, hb2⟩
    have HB2 := hidIt (HB.out.trans (Below.mono hb2 HB.out.size))
    have hg3 := bgrow w2 (.cells (aRow 0#64 fun _ => 0#64) 57)
    have HA3 : Hid (AtW (w2.alloc (.cells (aRow 0#64 fun _ => 0#64) 57)) w2.heap.size 0#64 fun _ => 0#64) := heap_alloc_new w2 _
    have HX3 := hidIt (blk_kept2 (blk_kept2 HX.out hb2) hg3)
    clear hb2 HC
    go_wp2_with (with_reducible refine at_store57 rfl ?_; refine Hid.out ?_)
    refine hidIt ?_
    refine wpList_store_at rfl (.tmp 5) (.tmp 12) rfl w2.heap.size rfl 0#64 (fun _ => 0#64) rfl HA3.out ?_
    intro w4 ha4 hb4
    have HB4 := hidIt ((HB2.out.trans (Below.mono hg3 HB2.out.size)).trans (hb4 _ HB2.out.size))
    clear ha4 hb4 hg3 x0 x1 lx
    go_wp2_with fail
    go_ret
    rw [HM.out]
    exact ⟨_, rfl, OwnI.nil _ _, HB4.out⟩
  · rw [hset] at HM
    have HC := hidIt (qRead_yes N _ _ ps x w1 H1.out HOK.out HPL.out H2.out HSL.out hset)
    
    clear hset
    go_wp2_with fail
    refine HC.out.mono ?_
    rintro e w2 ⟨rfl, hb2⟩
    have HB2 := hidIt (HB.out.trans (Below.mono hb2 HB.out.size))
    have hg3 := bgrow w2 (.cells (aRow 0#64 fun _ => 0#64) 57)
    have HA3 : Hid (AtW (w2.alloc (.cells (aRow 0#64 fun _ => 0#64) 57)) w2.heap.size 0#64 fun _ => 0#64) := heap_alloc_new w2 _
    have HX3 := hidIt (blk_kept2 (blk_kept2 HX.out hb2) hg3)
    have hPl := lt_of_block (blk_kept2 HX.out hb2)
    clear hb2 HC
    go_wp2_with (with_reducible refine at_store57 rfl ?_; refine Hid.out ?_)
    refine hidIt ?_
    refine wpList_store_at rfl (.tmp 5) (.tmp 12) rfl w2.heap.size rfl (bOf N allX) (attB ps) rfl HA3.out ?_
    intro w4 ha4 hb4
    have HB4 := hidIt ((HB2.out.trans (Below.mono hg3 HB2.out.size)).trans (hb4 _ HB2.out.size))
    have HA4 : Hid (AtkAt w4 w2.heap.size N (attB ps)) := ha4
    have HX4 : Hid (w4.heap[P]? = some (.cells #[.int .i64 (N : Int), .slice a ps.length c] 27 (0, 0))) := ((hb4 _ (Nat.le_refl _)).block P hPl).trans HX3.out
    have HT4 := hidIt (HT.out.go HB4.out)
    clear ha4 hb4 hg3 HA3 HX3 x0 x1 lx hPl
    generalize w2.heap.size = A at *
    have HMI := hidIt (ints_bOf (N := N) (by omega) (orX (memB x) (hitX ps (memB x))))
    have HOR : Hid (bits .or .u64 ((bOf N (memB x)).toNat : Int) ((bOf N (hitX ps (memB x))).toNat : Int) = ((bOf N (orX (memB x) (hitX ps (memB x)))).toNat : Int)) := by
      show _ = _
      rw [bits_or_bv, bOf_or (by omega)]
    go_wp2_with fail
    refine (qAttacked_any A N ps (memB x) w4 HA4.out HOK.out HT4.out).mono ?_
    rintro e w5 ⟨rfl, m, rfl⟩
    go_wp2_with fail
    rw [HOR.out]
    refine (qElements_any (bOf N (orX (memB x) (hitX ps (memB x)))) _ (HT4.out.drewN m)).mono ?_
    rintro e w6 ⟨v', rfl, ho, hb6⟩
    have HB6 := hidIt ((below_drewNr HB4.out m).trans (Below.mono hb6 HB4.out.size))
    have HO6 := hidIt (ho.base (B' := w.heap.size) HB4.out.size)
    clear hb6 ho
    go_wp2_with fail
    go_ret
    rw [HM.out, if_pos trivial, ← HMI.out]
    exact ⟨_, rfl, HO6.out, HB6.out⟩

set_option maxRecDepth 100000 in
set_option maxHeartbeats 2000000 in
theorem qDefends_any (N : Nat) (v v2 : Value) (ps : List (Int × Int)) (x : List Int) (i : Int) (w : World) (h : PairsAt w v ps) (hok : GOk (N : Int) ps) (hpl : ps.length ≤ 100000) (hs : IL w v2 x) (hsl : x.length ≤ 100000) (hT : Tab w) :
    Calls Tryd.prog 29 #[.agg #[.int .i64 (N : Int), v], v2, .int .i64 i] w fun e w' => e = .returned (.bool (setB N x && (ixB i (N : Int) && dfX ps (memB x) i.toNat))) ∧ Below w.heap.size w w' := by
  have hB := bgrow w (.cells #[.int .i64 (N : Int), v] 27)
  have H1 := hidIt (h.below hB)
  have H2 := hidIt (hs.below hB)
  have HOK := hidIt hok
  have HPL := hidIt hpl
  have HSL := hidIt hsl
  have HT := hidIt hT
  have hN : N ≤ 40 := by have := hok.n40; omega
  obtain ⟨a, c, rfl, -⟩ := h.form
  obtain ⟨a2, c2, rfl, -⟩ := hs.form
  have HX := hidIt (heap_alloc_new w (.cells #[.int .i64 (N : Int), .slice a ps.length c] 27))
  have HB := hidIt hB
  obtain ⟨R, hR⟩ : ∃ R, R = (setB N x && (ixB i (N : Int) && dfX ps (memB x) i.toNat)) := ⟨_, rfl⟩
  have HM := hidIt hR
  rw [← hR]
  clear hR
  clear h hs hB hpl hsl hT hok
  go_enter Tryd.func29, Tryd.ntmps29
  go_upto_region 1 with (fail)
  generalize (w.alloc (.cells #[.int .i64 (N : Int), .slice a ps.length c] 27)) = w1 at *
  obtain ⟨P, hP⟩ : ∃ P, P = w.heap.size := ⟨_, rfl⟩
  have HP := hidIt hP
  rw [← hP] at HX ⊢
  clear hP
  obtain ⟨x0, x1⟩ := And.intro (cell_two0 HX.out) (cell_two1 HX.out)
  have lx := lt_of_block HX.out
  cases hset : setB N x
  · rw [hset] at HM
    have HC := hidIt (qRead_no N _ _ ps x w1 H1.out HOK.out HPL.out H2.out HSL.out hset)
    clear hset
    go_wp2_with fail
    refine HC.out.mono ?_
    rintro e w2 ⟨rfl, hb2⟩
    have HB2 := hidIt (HB.out.trans (Below.mono hb2 HB.out.size))
    have hg3 := bgrow w2 (.cells (aRow 0#64 fun _ => 0#64) 57)
    have HA3 : Hid (AtW (w2.alloc (.cells (aRow 0#64 fun _ => 0#64) 57)) w2.heap.size 0#64 fun _ => 0#64) := heap_alloc_new w2 _
    have HX3 := hidIt (blk_kept2 (blk_kept2 HX.out hb2) hg3)
    clear hb2 HC
    go_wp2_with (with_reducible refine at_store57 rfl ?_; refine Hid.out ?_)
    refine hidIt ?_
    refine wpList_store_at rfl (.tmp 7) (.tmp 14) rfl w2.heap.size rfl 0#64 (fun _ => 0#64) rfl HA3.out ?_
    intro w4 ha4 hb4
    have HB4 := hidIt ((HB2.out.trans (Below.mono hg3 HB2.out.size)).trans (hb4 _ HB2.out.size))
    clear ha4 hb4 hg3 x0 x1 lx
    go_wp2_with fail
    go_ret
    exact ⟨ret_bool HM.out.symm, HB4.out⟩
  · rw [hset] at HM
    have HC := hidIt (qRead_yes N _ _ ps x w1 H1.out HOK.out HPL.out H2.out HSL.out hset)
    
    clear hset
    go_wp2_with fail
    refine HC.out.mono ?_
    rintro e w2 ⟨rfl, hb2⟩
    have HB2 := hidIt (HB.out.trans (Below.mono hb2 HB.out.size))
    have hg3 := bgrow w2 (.cells (aRow 0#64 fun _ => 0#64) 57)
    have HA3 : Hid (AtW (w2.alloc (.cells (aRow 0#64 fun _ => 0#64) 57)) w2.heap.size 0#64 fun _ => 0#64) := heap_alloc_new w2 _
    have HX3 := hidIt (blk_kept2 (blk_kept2 HX.out hb2) hg3)
    have hPl := lt_of_block (blk_kept2 HX.out hb2)
    clear hb2 HC
    go_wp2_with (with_reducible refine at_store57 rfl ?_; refine Hid.out ?_)
    refine hidIt ?_
    refine wpList_store_at rfl (.tmp 7) (.tmp 14) rfl w2.heap.size rfl (bOf N allX) (attB ps) rfl HA3.out ?_
    intro w4 ha4 hb4
    have HB4 := hidIt ((HB2.out.trans (Below.mono hg3 HB2.out.size)).trans (hb4 _ HB2.out.size))
    have HA4 : Hid (AtkAt w4 w2.heap.size N (attB ps)) := ha4
    have HX4 : Hid (w4.heap[P]? = some (.cells #[.int .i64 (N : Int), .slice a ps.length c] 27 (0, 0))) := ((hb4 _ (Nat.le_refl _)).block P hPl).trans HX3.out
    have HT4 := hidIt (HT.out.go HB4.out)
    clear ha4 hb4 hg3 HA3 HX3 x0 x1 lx hPl
    generalize w2.heap.size = A at *
    cases hix : ixB i (N : Int)
    · have HM0 : Hid (R = false) := by show _ = _; rw [HM.out, hix]; rfl
      have HIX := hidIt hix
      obtain ⟨x0, x1⟩ := And.intro (cell_two0 HX4.out) (cell_two1 HX4.out)
      have lx := lt_of_block HX4.out
      clear hix
      go_wp2_with fail
      refine (qIsNode_any (N : Int) i _ ⟨_, _, _, rfl⟩ _).mono ?_
      rw [HIX.out]
      rintro e w5 ⟨rfl, hb5⟩
      have HB5 := hidIt (HB4.out.trans (Below.mono hb5 HB4.out.size))
      clear hb5
      go_wp2_with fail
      go_ret
      exact ⟨ret_bool HM0.out.symm, HB5.out⟩
    · obtain ⟨hi0, hi1⟩ := ixB_true hix
      obtain ⟨I, rfl⟩ : ∃ I : Nat, i = (I : Int) := ⟨i.toNat, by omega⟩
      have hIN : I < N := by omega
      have HM1 : Hid (R = dfX ps (memB x) I) := by show _ = _; rw [HM.out, hix, Int.toNat_natCast]; rfl
      have HIX := hidIt hix
      have hI64 : I < 64 := by omega
      have hmin : min I 64 = I := by omega
      have HSH := hidIt (bit_shr (bOf N (dfX ps (memB x))) I)
      have HBT : Hid ((bOf N (dfX ps (memB x))).getLsbD I = dfX ps (memB x) I) := by show _ = _; rw [bOf_bit (by omega), decide_eq_true hIN]; rfl
      obtain ⟨x0, x1⟩ := And.intro (cell_two0 HX4.out) (cell_two1 HX4.out)
      have lx := lt_of_block HX4.out
      clear hix
      go_wp2_with fail
      refine (qIsNode_any (N : Int) (I : Int) _ ⟨_, _, _, rfl⟩ _).mono ?_
      rw [HIX.out]
      rintro e w5 ⟨rfl, hb5⟩
      have HB5 := hidIt (HB4.out.trans (Below.mono hb5 HB4.out.size))
      have HA5 := hidIt (HA4.out.go hb5)
      have HT5 := hidIt (HT4.out.go hb5)
      clear hb5
      go_wp2_with fail
      refine (qDefended_any A N ps (memB x) w5 HA5.out HOK.out HT5.out).mono ?_
      rintro e w6 ⟨rfl, m, rfl⟩
      go_wp2_with fail
      go_ret
      refine ⟨?_, below_drewNr HB5.out m⟩
      rw [HM1.out, ← HBT.out]
      rw [HSH.out]
      cases (bOf N (dfX ps (memB x))).getLsbD I <;> rfl
end Go.Proofs.YtihmdnbeonefcaaDoor
