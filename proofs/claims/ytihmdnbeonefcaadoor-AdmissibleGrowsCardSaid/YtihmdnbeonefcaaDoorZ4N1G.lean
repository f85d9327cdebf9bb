/- The program's Grow and Shrink: the same loop with two functions. -/
import Derived.Test.YtihmdnbeonefcaaDoorZ4N1F

namespace Go.Proofs.YtihmdnbeonefcaaDoor
set_option linter.unusedVariables false
set_option linter.unusedSimpArgs false
open Go Go.RowKit Go.Sort

theorem members_size {N : Nat} (hN : N ≤ 64) (X : Nat → Bool) : (members (bOf N X)).length = sizeX N X := by rw [members_bOf hN]; rfl
/-- What Grow and Shrink return: the error, and the set. -/
def growE (N : Nat) (ps : List (Int × Int)) (x : List Int) : Int := if setB N x = true then (if admX N ps (memB x) = true then 0 else 7) else 1
def shrinkE (N : Nat) (ps : List (Int × Int)) (x : List Int) : Int := if setB N x = true then (if cfX ps (memB x) = true then 0 else 10) else 1
structure GrowS (N : Nat) (ps : List (Int × Int)) (x l : List Int) : Prop where
  bad : growE N ps x ≠ 0 → l = []
  good : growE N ps x = 0 → ∃ Z, GrowR N ps (memB x) Z ∧ l = setL N Z
structure ShrinkS (N : Nat) (ps : List (Int × Int)) (x l : List Int) : Prop where
  bad : shrinkE N ps x ≠ 0 → l = []
  good : shrinkE N ps x = 0 → ∃ Z, ShrinkR N ps (memB x) Z ∧ l = setL N Z
theorem GrowS.uniq {N : Nat} {ps : List (Int × Int)} {x l l' : List Int} (h : GrowS N ps x l) (h' : GrowS N ps x l') : l = l' := by
  by_cases e : growE N ps x = 0
  · obtain ⟨Z, hz, rfl⟩ := h.good e
    obtain ⟨Z', hz', rfl⟩ := h'.good e
    exact hz.uniq hz'
  · rw [h.bad e, h'.bad e]
theorem ShrinkS.uniq {N : Nat} {ps : List (Int × Int)} {x l l' : List Int} (h : ShrinkS N ps x l) (h' : ShrinkS N ps x l') : l = l' := by
  by_cases e : shrinkE N ps x = 0
  · obtain ⟨Z, hz, rfl⟩ := h.good e
    obtain ⟨Z', hz', rfl⟩ := h'.good e
    exact hz.uniq hz'
  · rw [h.bad e, h'.bad e]

set_option maxRecDepth 100000 in
set_option maxHeartbeats 1000000 in
theorem qShrink1_any (P N : Nat) (ps : List (Int × Int)) (X : Nat → Bool) (w : World) (h : AtkAt w P N (attB ps)) (hok : GOk (N : Int) ps) (hT : Tab w) :
    Calls Tryd.prog 60 #[bv (bOf N X), .pointer (some ⟨P, 0, none⟩)] w fun e w' => e = .returned (bv (bOf N (cutX ps X))) ∧ ∃ m, w' = w.drewN m := by
  have hN : N ≤ 64 := by have := hok.n40; omega
  have HC := hidIt (qDefended_any P N ps X w h hok hT)
  have HN1 : Hid (bits .and .u64 ((bOf N X).toNat : Int) ((bOf N (dfX ps X)).toNat : Int) = ((bOf N (cutX ps X)).toNat : Int)) := by
    show _ = _
    rw [bits_and_bv, bOf_and hN]
    rfl
  clear h hok hT
  go_enter Tryd.func60, Tryd.ntmps60
  go_wp2_with fail
  refine HC.out.mono ?_
  rintro e w1 ⟨rfl, HD⟩
  go_wp2_with fail
  go_ret
  exact ⟨by rw [HN1.out]; rfl, HD⟩

set_option maxRecDepth 100000 in
set_option maxHeartbeats 1000000 in
theorem lastUp_any (P N : Nat) (ps : List (Int × Int)) (X Z0 : Nat → Bool) (w : World) (h : AtkAt w P N (attB ps)) (hok : GOk (N : Int) ps) (hT : Tab w) (hI : GrowI N ps X Z0) :
    Calls Tryd.prog 59 #[bv (bOf N Z0), .func (.func 53) #[.pointer (some ⟨P, 0, none⟩)] #[]] w fun e w' => ∃ Z, e = .returned (bv (bOf N Z)) ∧ GrowR N ps X Z ∧ ∃ m, w' = w.drewN m := by
  have hN : N ≤ 64 := by have := hok.n40; omega
  have HC : Hid (∀ (Y : Nat → Bool) (w1 : World), AtkAt w1 P N (attB ps) → Tab w1 → Calls Tryd.prog 53 #[.pointer (some ⟨P, 0, none⟩), bv (bOf N Y)] w1 fun e w' => e = .returned (bv (bOf N (dfX ps Y))) ∧ ∃ m, w' = w1.drewN m) := fun Y w1 h1 h2 => qDefended_any P N ps Y w1 h1 hok h2
  have HA := hidIt h
  have HT := hidIt hT
  have HI := hidIt hI
  have HIX := hidIt hok.ix
  clear h hok hT hI
  go_enter Tryd.func59, Tryd.ntmps59
  go_wp2_with fail
  go_loopw [0, 5] (fun v0 _ wr => ∃ Z : Nat → Bool, v0 = bv (bOf N Z) ∧ Hid (GrowI N ps X Z) ∧ Hid (∃ m, wr = w.drewN m)) (fun v0 _ _ => 64 - (members (BitVec.ofInt 64 (intOf v0))).length)
  case atStart => exact ⟨Z0, rfl, HI.out, (⟨0, rfl⟩ : ∃ m, w = w.drewN m)⟩
  case round =>
    clear HI
    obtain ⟨Z, rfl, HI, HD⟩ := hrel
    have HAr : Hid (AtkAt wr P N (attB ps)) := by obtain ⟨m, rfl⟩ := HD.out; exact HA.out
    have HTr : Hid (Tab wr) := by obtain ⟨m, rfl⟩ := HD.out; exact HT.out
    have HNX := hidIt (HI.out.next HIX.out)
    have HQ := hidIt (HC.out Z wr HAr.out HTr.out)
    by_cases he : bOf N (dfX ps Z) = bOf N Z
    · have HF := hidIt (HI.out.fin (bOf_inj hN he))
      have hb : (((bOf N (dfX ps Z)).toNat : Int) == ((bOf N Z).toNat : Int)) = true := by rw [eq_bv]; exact decide_eq_true he
      clear he
      go_wp2_with fail
      refine HQ.out.mono ?_
      rintro e w2 ⟨rfl, HD2⟩
      go_wp2_with fail
      go_ret
      exact ⟨Z, rfl, HF.out, by obtain ⟨m, rfl⟩ := HD.out; obtain ⟨m2, rfl⟩ := HD2; exact ⟨_, World.drewN_drewN ..⟩⟩
    · have hb : (((bOf N (dfX ps Z)).toNat : Int) == ((bOf N Z).toNat : Int)) = false := by rw [eq_bv]; exact decide_eq_false he
      have HLT : Hid (64 - (members (bOf N (dfX ps Z))).length < 64 - (members (bOf N Z)).length) := by
        show _ < _
        rw [members_size hN, members_size hN]
        have h1 := sizeX_lt (N := N) (X := Z) (Y := dfX ps Z) HI.out.def_ (fun e => he (bOf_congr hN fun i hi => (setL_inj e i hi).symm))
        have h2 := sizeX_le N (dfX ps Z)
        omega
      clear he
      go_wp2_with fail
      refine HQ.out.mono ?_
      rintro e w2 ⟨rfl, HD2⟩
      have HD3 : Hid (∃ m, w2 = w.drewN m) := by obtain ⟨m, rfl⟩ := HD.out; obtain ⟨m2, rfl⟩ := HD2; exact ⟨_, World.drewN_drewN ..⟩
      clear HD2
      go_wp2_with fail
      go_roundw
      case rel => exact ⟨dfX ps Z, (by first | rfl | trivial), HNX.out, HD3.out⟩
      case measure =>
        show 64 - (members (BitVec.ofInt 64 (((bOf N (dfX ps Z)).toNat : Int)))).length < 64 - (members (BitVec.ofInt 64 (((bOf N Z).toNat : Int)))).length
        rw [ofInt_bv, ofInt_bv]
        exact HLT.out

set_option maxRecDepth 100000 in
set_option maxHeartbeats 1000000 in
theorem lastDown_any (P N : Nat) (ps : List (Int × Int)) (X Z0 : Nat → Bool) (w : World) (h : AtkAt w P N (attB ps)) (hok : GOk (N : Int) ps) (hT : Tab w) (hI : ShrinkI N ps X Z0) :
    Calls Tryd.prog 59 #[bv (bOf N Z0), .func (.func 60) #[] #[.pointer (some ⟨P, 0, none⟩)]] w fun e w' => ∃ Z, e = .returned (bv (bOf N Z)) ∧ ShrinkR N ps X Z ∧ ∃ m, w' = w.drewN m := by
  have hN : N ≤ 64 := by have := hok.n40; omega
  have HC : Hid (∀ (Y : Nat → Bool) (w1 : World), AtkAt w1 P N (attB ps) → Tab w1 → Calls Tryd.prog 60 #[bv (bOf N Y), .pointer (some ⟨P, 0, none⟩)] w1 fun e w' => e = .returned (bv (bOf N (cutX ps Y))) ∧ ∃ m, w' = w1.drewN m) := fun Y w1 h1 h2 => qShrink1_any P N ps Y w1 h1 hok h2
  have HA := hidIt h
  have HT := hidIt hT
  have HI := hidIt hI
  have HIX := hidIt hok.ix
  clear h hok hT hI
  go_enter Tryd.func59, Tryd.ntmps59
  go_wp2_with fail
  go_loopw [0, 5] (fun v0 _ wr => ∃ Z : Nat → Bool, v0 = bv (bOf N Z) ∧ Hid (ShrinkI N ps X Z) ∧ Hid (∃ m, wr = w.drewN m)) (fun v0 _ _ => (members (BitVec.ofInt 64 (intOf v0))).length)
  case atStart => exact ⟨Z0, rfl, HI.out, (⟨0, rfl⟩ : ∃ m, w = w.drewN m)⟩
  case round =>
    clear HI
    obtain ⟨Z, rfl, HI, HD⟩ := hrel
    have HAr : Hid (AtkAt wr P N (attB ps)) := by obtain ⟨m, rfl⟩ := HD.out; exact HA.out
    have HTr : Hid (Tab wr) := by obtain ⟨m, rfl⟩ := HD.out; exact HT.out
    have HNX := hidIt (HI.out.next HIX.out)
    have HQ := hidIt (HC.out Z wr HAr.out HTr.out)
    by_cases he : bOf N (cutX ps Z) = bOf N Z
    · have HF := hidIt (HI.out.fin (bOf_inj hN he))
      have hb : (((bOf N (cutX ps Z)).toNat : Int) == ((bOf N Z).toNat : Int)) = true := by rw [eq_bv]; exact decide_eq_true he
      clear he
      go_wp2_with fail
      refine HQ.out.mono ?_
      rintro e w2 ⟨rfl, HD2⟩
      go_wp2_with fail
      go_ret
      exact ⟨Z, rfl, HF.out, by obtain ⟨m, rfl⟩ := HD.out; obtain ⟨m2, rfl⟩ := HD2; exact ⟨_, World.drewN_drewN ..⟩⟩
    · have hb : (((bOf N (cutX ps Z)).toNat : Int) == ((bOf N Z).toNat : Int)) = false := by rw [eq_bv]; exact decide_eq_false he
      have HLT : Hid ((members (bOf N (cutX ps Z))).length < (members (bOf N Z)).length) := by
        show _ < _
        rw [members_size hN, members_size hN]
        exact sizeX_lt (N := N) (X := cutX ps Z) (Y := Z) (fun i _ hx => by unfold cutX at hx; rw [Bool.and_eq_true] at hx; exact hx.1) (fun e => he (bOf_congr hN fun i hi => setL_inj e i hi))
      clear he
      go_wp2_with fail
      refine HQ.out.mono ?_
      rintro e w2 ⟨rfl, HD2⟩
      have HD3 : Hid (∃ m, w2 = w.drewN m) := by obtain ⟨m, rfl⟩ := HD.out; obtain ⟨m2, rfl⟩ := HD2; exact ⟨_, World.drewN_drewN ..⟩
      clear HD2
      go_wp2_with fail
      go_roundw
      case rel => exact ⟨cutX ps Z, (by first | rfl | trivial), HNX.out, HD3.out⟩
      case measure =>
        show (members (BitVec.ofInt 64 (((bOf N (cutX ps Z)).toNat : Int)))).length < (members (BitVec.ofInt 64 (((bOf N Z).toNat : Int)))).length
        rw [ofInt_bv, ofInt_bv]
        exact HLT.out

set_option maxRecDepth 100000 in
set_option maxHeartbeats 2000000 in
theorem qGrow_any (N : Nat) (v v2 : Value) (ps : List (Int × Int)) (x : List Int) (w : World) (h : PairsAt w v ps) (hok : GOk (N : Int) ps) (hpl : ps.length ≤ 100000) (hs : IL w v2 x) (hsl : x.length ≤ 100000) (hT : Tab w) :
    Calls Tryd.prog 33 #[.agg #[.int .i64 (N : Int), v], v2] w fun e w' => ∃ (v' : Value) (l : List Int), e = .returned (.tuple #[v', .int .i64 (growE N ps x)]) ∧ GrowS N ps x l ∧ OwnI w' w.heap.size v' l ∧ Below w.heap.size w w' := by
  have hB := bgrow w (.cells #[.int .i64 (N : Int), v] 27)
  have H1 := hidIt (h.below hB)
  have H2 := hidIt (hs.below hB)
  have HOK := hidIt hok
  have HPL := hidIt hpl
  have HSL := hidIt hsl
  have HT := hidIt hT
  have hN : N ≤ 40 := by have := hok.n40; omega
  obtain ⟨a, c, rfl, -⟩ := h.form
  obtain ⟨a2, c2, rfl, -⟩ := hs.form
  have HX := hidIt (heap_alloc_new w (.cells #[.int .i64 (N : Int), .slice a ps.length c] 27))
  have HB := hidIt hB
  have HM : Hid (growE N ps x = if setB N x = true then (if admX N ps (memB x) = true then 0 else 7) else 1) := (rfl : _ = _)
  have HS0 : Hid (growE N ps x ≠ 0 → GrowS N ps x []) := fun h => ⟨fun _ => rfl, fun e => absurd e h⟩
  have HS1 : Hid (growE N ps x = 0 → ∀ Z, GrowR N ps (memB x) Z → GrowS N ps x (setL N Z)) := fun h Z hz => ⟨fun e => absurd h e, fun _ => ⟨Z, hz, rfl⟩⟩
  generalize growE N ps x = E at *
  clear h hs hB hpl hsl hT hok
  go_enter Tryd.func33, Tryd.ntmps33
  go_upto_region 1 with (fail)
  generalize (w.alloc (.cells #[.int .i64 (N : Int), .slice a ps.length c] 27)) = w1 at *
  obtain ⟨P, hP⟩ : ∃ P, P = w.heap.size := ⟨_, rfl⟩
  have HP := hidIt hP
  rw [← hP] at HX ⊢
  clear hP
  obtain ⟨x0, x1⟩ := And.intro (cell_two0 HX.out) (cell_two1 HX.out)
  have lx := lt_of_block HX.out
  cases hset : setB N x
  · rw [hset] at HM
    have HC := hidIt (qRead_no N _ _ ps x w1 H1.out HOK.out HPL.out H2.out HSL.out hset)
    clear hset
    go_wp2_with fail
    refine HC.out.mono ?_
    rintro e w2 ⟨rfl, hb2⟩
    have HB2 := hidIt (HB.out.trans (Below.mono hb2 HB.out.size))
    have hg3 := bgrow w2 (.cells (aRow 0#64 fun _ => 0#64) 57)
    have HA3 : Hid (AtW (w2.alloc (.cells (aRow 0#64 fun _ => 0#64) 57)) w2.heap.size 0#64 fun _ => 0#64) := heap_alloc_new w2 _
    have HX3 := hidIt (blk_kept2 (blk_kept2 HX.out hb2) hg3)
    clear hb2 HC
    go_wp2_with (with_reducible refine at_store57 rfl ?_; refine Hid.out ?_)
    refine hidIt ?_
    refine wpList_store_at rfl (.tmp 6) (.tmp 13) rfl w2.heap.size rfl 0#64 (fun _ => 0#64) rfl HA3.out ?_
    intro w4 ha4 hb4
    have HB4 := hidIt ((HB2.out.trans (Below.mono hg3 HB2.out.size)).trans (hb4 _ HB2.out.size))
    clear ha4 hb4 hg3 x0 x1 lx
    go_wp2_with fail
    have hE : E = 1 := by have := HM.out; rwa [if_neg (by decide)] at this
    subst hE
    refine bodyPost_ret (v := .tuple #[.slice none 0 0, .int .i64 1]) (by simp [results, Tryd.results33]) rfl ?_
    exact ⟨_, [], rfl, HS0.out (by decide), OwnI.nil _ _, HB4.out⟩
  · rw [hset] at HM
    have HC := hidIt (qRead_yes N _ _ ps x w1 H1.out HOK.out HPL.out H2.out HSL.out hset)
    
    clear hset
    go_wp2_with fail
    refine HC.out.mono ?_
    rintro e w2 ⟨rfl, hb2⟩
    have HB2 := hidIt (HB.out.trans (Below.mono hb2 HB.out.size))
    have hg3 := bgrow w2 (.cells (aRow 0#64 fun _ => 0#64) 57)
    have HA3 : Hid (AtW (w2.alloc (.cells (aRow 0#64 fun _ => 0#64) 57)) w2.heap.size 0#64 fun _ => 0#64) := heap_alloc_new w2 _
    have HX3 := hidIt (blk_kept2 (blk_kept2 HX.out hb2) hg3)
    have hPl := lt_of_block (blk_kept2 HX.out hb2)
    clear hb2 HC
    go_wp2_with (with_reducible refine at_store57 rfl ?_; refine Hid.out ?_)
    refine hidIt ?_
    refine wpList_store_at rfl (.tmp 6) (.tmp 13) rfl w2.heap.size rfl (bOf N allX) (attB ps) rfl HA3.out ?_
    intro w4 ha4 hb4
    have HB4 := hidIt ((HB2.out.trans (Below.mono hg3 HB2.out.size)).trans (hb4 _ HB2.out.size))
    have HA4 : Hid (AtkAt w4 w2.heap.size N (attB ps)) := ha4
    have HX4 : Hid (w4.heap[P]? = some (.cells #[.int .i64 (N : Int), .slice a ps.length c] 27 (0, 0))) := ((hb4 _ (Nat.le_refl _)).block P hPl).trans HX3.out
    have HT4 := hidIt (HT.out.go HB4.out)
    clear ha4 hb4 hg3 HA3 HX3 x0 x1 lx hPl
    generalize w2.heap.size = A at *
    have HM2 : Hid (E = if admX N ps (memB x) = true then 0 else 7) := by have := HM.out; rwa [if_pos trivial] at this
    have HF := hidIt (qAdm_any A N ps (memB x) w4 HA4.out HOK.out HT4.out)
    cases hc : admX N ps (memB x)
    · rw [hc] at HF
      have hE : E = 7 := by have := HM2.out; rw [hc] at this; exact this
      subst hE
      clear hc
      go_wp2_with fail
      refine HF.out.mono ?_
      rintro e w5 ⟨rfl, m, rfl⟩
      go_wp2_with fail
      refine bodyPost_ret (v := .tuple #[.slice none 0 0, .int .i64 7]) (by simp [results, Tryd.results33]) rfl ?_
      exact ⟨_, [], rfl, HS0.out (by decide), OwnI.nil _ _, below_drewNr HB4.out m⟩
    · have hE : E = 0 := by have := HM2.out; rw [hc] at this; exact this
      subst hE
      have HI0 := hidIt (GrowI.start hc)
      rw [hc] at HF
      clear hc
      go_wp2_with fail
      refine HF.out.mono ?_
      rintro e w5 ⟨rfl, m, rfl⟩
      go_wp2_with fail
      refine (lastUp_any A N ps (memB x) (memB x) _ (HA4.out.drewN m) HOK.out (HT4.out.drewN m) HI0.out).mono ?_
      rintro e w6 ⟨Z, rfl, hz, m2, rfl⟩
      have HZ := hidIt (HS1.out (by trivial) Z hz)
      have HMI := hidIt (ints_bOf (N := N) (by omega) Z)
      clear hz
      go_wp2_with fail
      refine (qElements_any (bOf N Z) _ (HT4.out.drewN (m + m2))).mono ?_
      rintro e w7 ⟨v', rfl, ho, hb7⟩
      rw [HMI.out] at ho
      have HB7 := hidIt ((below_drewNr HB4.out (m + m2)).trans (Below.mono hb7 HB4.out.size))
      have HO7 := hidIt (ho.base (B' := w.heap.size) HB4.out.size)
      clear hb7 ho
      go_wp2_with fail
      refine bodyPost_ret (v := .tuple #[v', .int .i64 0]) (by simp [results, Tryd.results33]) rfl ?_
      exact ⟨_, _, rfl, HZ.out, HO7.out, HB7.out⟩

set_option maxRecDepth 100000 in
set_option maxHeartbeats 2000000 in
theorem qShrink_any (N : Nat) (v v2 : Value) (ps : List (Int × Int)) (x : List Int) (w : World) (h : PairsAt w v ps) (hok : GOk (N : Int) ps) (hpl : ps.length ≤ 100000) (hs : IL w v2 x) (hsl : x.length ≤ 100000) (hT : Tab w) :
    Calls Tryd.prog 35 #[.agg #[.int .i64 (N : Int), v], v2] w fun e w' => ∃ (v' : Value) (l : List Int), e = .returned (.tuple #[v', .int .i64 (shrinkE N ps x)]) ∧ ShrinkS N ps x l ∧ OwnI w' w.heap.size v' l ∧ Below w.heap.size w w' := by
  have hB := bgrow w (.cells #[.int .i64 (N : Int), v] 27)
  have H1 := hidIt (h.below hB)
  have H2 := hidIt (hs.below hB)
  have HOK := hidIt hok
  have HPL := hidIt hpl
  have HSL := hidIt hsl
  have HT := hidIt hT
  have hN : N ≤ 40 := by have := hok.n40; omega
  obtain ⟨a, c, rfl, -⟩ := h.form
  obtain ⟨a2, c2, rfl, -⟩ := hs.form
  have HX := hidIt (heap_alloc_new w (.cells #[.int .i64 (N : Int), .slice a ps.length c] 27))
  have HB := hidIt hB
  have HM : Hid (shrinkE N ps x = if setB N x = true then (if cfX ps (memB x) = true then 0 else 10) else 1) := (rfl : _ = _)
  have HS0 : Hid (shrinkE N ps x ≠ 0 → ShrinkS N ps x []) := fun h => ⟨fun _ => rfl, fun e => absurd e h⟩
  have HS1 : Hid (shrinkE N ps x = 0 → ∀ Z, ShrinkR N ps (memB x) Z → ShrinkS N ps x (setL N Z)) := fun h Z hz => ⟨fun e => absurd h e, fun _ => ⟨Z, hz, rfl⟩⟩
  generalize shrinkE N ps x = E at *
  clear h hs hB hpl hsl hT hok
  go_enter Tryd.func35, Tryd.ntmps35
  go_upto_region 1 with (fail)
  generalize (w.alloc (.cells #[.int .i64 (N : Int), .slice a ps.length c] 27)) = w1 at *
  obtain ⟨P, hP⟩ : ∃ P, P = w.heap.size := ⟨_, rfl⟩
  have HP := hidIt hP
  rw [← hP] at HX ⊢
  clear hP
  obtain ⟨x0, x1⟩ := And.intro (cell_two0 HX.out) (cell_two1 HX.out)
  have lx := lt_of_block HX.out
  cases hset : setB N x
  · rw [hset] at HM
    have HC := hidIt (qRead_no N _ _ ps x w1 H1.out HOK.out HPL.out H2.out HSL.out hset)
    clear hset
    go_wp2_with fail
    refine HC.out.mono ?_
    rintro e w2 ⟨rfl, hb2⟩
    have HB2 := hidIt (HB.out.trans (Below.mono hb2 HB.out.size))
    have hg3 := bgrow w2 (.cells (aRow 0#64 fun _ => 0#64) 57)
    have HA3 : Hid (AtW (w2.alloc (.cells (aRow 0#64 fun _ => 0#64) 57)) w2.heap.size 0#64 fun _ => 0#64) := heap_alloc_new w2 _
    have HX3 := hidIt (blk_kept2 (blk_kept2 HX.out hb2) hg3)
    clear hb2 HC
    go_wp2_with (with_reducible refine at_store57 rfl ?_; refine Hid.out ?_)
    refine hidIt ?_
    refine wpList_store_at rfl (.tmp 6) (.tmp 14) rfl w2.heap.size rfl 0#64 (fun _ => 0#64) rfl HA3.out ?_
    intro w4 ha4 hb4
    have HB4 := hidIt ((HB2.out.trans (Below.mono hg3 HB2.out.size)).trans (hb4 _ HB2.out.size))
    clear ha4 hb4 hg3 x0 x1 lx
    go_wp2_with fail
    have hE : E = 1 := by have := HM.out; rwa [if_neg (by decide)] at this
    subst hE
    refine bodyPost_ret (v := .tuple #[.slice none 0 0, .int .i64 1]) (by simp [results, Tryd.results35]) rfl ?_
    exact ⟨_, [], rfl, HS0.out (by decide), OwnI.nil _ _, HB4.out⟩
  · rw [hset] at HM
    have HC := hidIt (qRead_yes N _ _ ps x w1 H1.out HOK.out HPL.out H2.out HSL.out hset)
    
    clear hset
    go_wp2_with fail
    refine HC.out.mono ?_
    rintro e w2 ⟨rfl, hb2⟩
    have HB2 := hidIt (HB.out.trans (Below.mono hb2 HB.out.size))
    have hg3 := bgrow w2 (.cells (aRow 0#64 fun _ => 0#64) 57)
    have HA3 : Hid (AtW (w2.alloc (.cells (aRow 0#64 fun _ => 0#64) 57)) w2.heap.size 0#64 fun _ => 0#64) := heap_alloc_new w2 _
    have HX3 := hidIt (blk_kept2 (blk_kept2 HX.out hb2) hg3)
    have hPl := lt_of_block (blk_kept2 HX.out hb2)
    clear hb2 HC
    go_wp2_with (with_reducible refine at_store57 rfl ?_; refine Hid.out ?_)
    refine hidIt ?_
    refine wpList_store_at rfl (.tmp 6) (.tmp 14) rfl w2.heap.size rfl (bOf N allX) (attB ps) rfl HA3.out ?_
    intro w4 ha4 hb4
    have HB4 := hidIt ((HB2.out.trans (Below.mono hg3 HB2.out.size)).trans (hb4 _ HB2.out.size))
    have HA4 : Hid (AtkAt w4 w2.heap.size N (attB ps)) := ha4
    have HX4 : Hid (w4.heap[P]? = some (.cells #[.int .i64 (N : Int), .slice a ps.length c] 27 (0, 0))) := ((hb4 _ (Nat.le_refl _)).block P hPl).trans HX3.out
    have HT4 := hidIt (HT.out.go HB4.out)
    clear ha4 hb4 hg3 HA3 HX3 x0 x1 lx hPl
    generalize w2.heap.size = A at *
    have HM2 : Hid (E = if cfX ps (memB x) = true then 0 else 10) := by have := HM.out; rwa [if_pos trivial] at this
    have HF := hidIt (qCf_any A N ps (memB x) w4 HA4.out HOK.out HT4.out)
    cases hc : cfX ps (memB x)
    · rw [hc] at HF
      have hE : E = 10 := by have := HM2.out; rw [hc] at this; exact this
      subst hE
      clear hc
      go_wp2_with fail
      refine HF.out.mono ?_
      rintro e w5 ⟨rfl, m, rfl⟩
      go_wp2_with fail
      refine bodyPost_ret (v := .tuple #[.slice none 0 0, .int .i64 10]) (by simp [results, Tryd.results35]) rfl ?_
      exact ⟨_, [], rfl, HS0.out (by decide), OwnI.nil _ _, below_drewNr HB4.out m⟩
    · have hE : E = 0 := by have := HM2.out; rw [hc] at this; exact this
      subst hE
      have HI0 := hidIt (ShrinkI.start (N := N) (ps := ps) (X := memB x))
      rw [hc] at HF
      clear hc
      go_wp2_with fail
      refine HF.out.mono ?_
      rintro e w5 ⟨rfl, m, rfl⟩
      go_wp2_with fail
      refine (lastDown_any A N ps (memB x) (memB x) _ (HA4.out.drewN m) HOK.out (HT4.out.drewN m) HI0.out).mono ?_
      rintro e w6 ⟨Z, rfl, hz, m2, rfl⟩
      have HZ := hidIt (HS1.out (by trivial) Z hz)
      have HMI := hidIt (ints_bOf (N := N) (by omega) Z)
      clear hz
      go_wp2_with fail
      refine (qElements_any (bOf N Z) _ (HT4.out.drewN (m + m2))).mono ?_
      rintro e w7 ⟨v', rfl, ho, hb7⟩
      rw [HMI.out] at ho
      have HB7 := hidIt ((below_drewNr HB4.out (m + m2)).trans (Below.mono hb7 HB4.out.size))
      have HO7 := hidIt (ho.base (B' := w.heap.size) HB4.out.size)
      clear hb7 ho
      go_wp2_with fail
      refine bodyPost_ret (v := .tuple #[v', .int .i64 0]) (by simp [results, Tryd.results35]) rfl ?_
      exact ⟨_, _, rfl, HZ.out, HO7.out, HB7.out⟩
end Go.Proofs.YtihmdnbeonefcaaDoor
