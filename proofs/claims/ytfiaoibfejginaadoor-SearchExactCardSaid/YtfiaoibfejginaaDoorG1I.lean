/- keep.Graph and keep.Part: valid graphs and ascending lists out of a reader. -/
import Derived.Test.YtfiaoibfejginaaDoorG1D
import Derived.Test.YtfiaoibfejginaaDoorG1H
import Derived.Test.YtfiaoibfejginaaDoorG0T
import Derived.Test.YtfiaoibfejginaaDoorG0S
namespace Go.Proofs.YtfiaoibfejginaaDoor
set_option linter.unusedVariables false
set_option linter.unusedSimpArgs false
open Go Go.RowKit Go.Sort

/-- What has been laid of a graph of N nodes when the pair (f, t) is next. -/
structure Gen (N f t : Nat) (ps : List (Int × Int)) : Prop where
  ix : ∀ p ∈ ps, (0 ≤ p.1 ∧ p.1 < (N : Int)) ∧ (0 ≤ p.2 ∧ p.2 < (N : Int))
  lt : ∀ p ∈ ps, p.1 < (f : Int) ∨ p.1 = (f : Int) ∧ p.2 < (t : Int)
  up : ps.Pairwise fun a b => geP a b = false
  len : ps.length ≤ f * N + t
theorem Gen.nil (N : Nat) : Gen N 0 0 [] := ⟨fun p h => (by cases h), fun p h => (by cases h), List.Pairwise.nil, Nat.zero_le _⟩
theorem Gen.skip {N f t : Nat} {ps : List (Int × Int)} (h : Gen N f t ps) : Gen N f (t + 1) ps := ⟨h.ix, fun p hp => by have := h.lt p hp; omega, h.up, by have := h.len; omega⟩
theorem Gen.add {N f t : Nat} {ps : List (Int × Int)} (h : Gen N f t ps) (hf : f < N) (ht : t < N) : Gen N f (t + 1) (ps ++ [((f : Int), (t : Int))]) := by
  refine ⟨fun p hp => ?_, fun p hp => ?_, ?_, by rw [List.length_append]; have := h.len; simp only [List.length_cons, List.length_nil]; omega⟩
  · rcases List.mem_append.1 hp with hp | hp
    · exact h.ix p hp
    · rw [List.mem_singleton] at hp; subst hp; exact ⟨⟨Int.natCast_nonneg _, Int.ofNat_lt.2 hf⟩, Int.natCast_nonneg _, Int.ofNat_lt.2 ht⟩
  · rcases List.mem_append.1 hp with hp | hp
    · have := h.lt p hp; omega
    · rw [List.mem_singleton] at hp; subst hp; exact .inr ⟨rfl, Int.ofNat_lt.2 (Nat.lt_succ_self t)⟩
  · rw [List.pairwise_append]
    refine ⟨h.up, List.pairwise_singleton _ _, fun a ha b hb => ?_⟩
    rw [List.mem_singleton] at hb
    subst hb
    have := h.lt a ha
    unfold geP
    simp only [decide_eq_false_iff_not]
    omega
theorem Gen.row {N f : Nat} {ps : List (Int × Int)} (h : Gen N f N ps) : Gen N (f + 1) 0 ps := ⟨h.ix, fun p hp => by have := h.lt p hp; have := h.ix p hp; omega, h.up, by have := h.len; rw [Nat.succ_mul]; omega⟩
theorem Gen.ok {N f : Nat} {ps : List (Int × Int)} (h : Gen N f 0 ps) (hN : N ≤ 40) : GOk (N : Int) ps := ⟨by omega, by omega, h.ix, h.up⟩

/-- A graph that is being made beside a reader. -/
structure GS (w : World) (B b P Q : Nat) (zs : List Int) (n : Int) (wr : World) (v : Value) (ps : List (Int × Int)) : Prop where
  bl : b < w.heap.size
  lo : w.heap.size ≤ P
  pq : P < Q
  res : wr.heap[P]? = some (.cells #[.int .i64 0, .slice none 0 0] 24 (0, 0))
  box : wr.heap[Q]? = some (.cells #[.int .i64 n, v] 24 (0, 0))
  own : OwnP wr (Q + 1) v ps
  src : ∃ k, SrcAt wr B b zs k
  gr : w.grownBy wr (some b)
theorem GS.call {w wr w' : World} {B b P Q : Nat} {zs : List Int} {n : Int} {v : Value} {ps : List (Int × Int)} {k : Nat} (h : GS w B b P Q zs n wr v ps) (hs : SrcAt w' B b zs k) (hg : wr.grownBy w' (some b)) : GS w B b P Q zs n w' v ps := by
  have hbl := h.bl; have hlo := h.lo; have hpq := h.pq
  exact ⟨h.bl, h.lo, h.pq, (hg.block P (lt_of_block h.res) (fun e => by injection e with e; omega)).trans h.res, (hg.block Q (lt_of_block h.box) (fun e => by injection e with e; omega)).trans h.box,
    owns_kept h.own fun g e => hg.block g (owns_blk h.own g e).2 (fun e2 => by injection e2 with e2; have := (owns_blk h.own g e).1; omega), ⟨k, hs⟩, only_trans h.gr hg⟩
theorem GS.go {w wr w' : World} {B b P Q : Nat} {zs : List Int} {n : Int} {v : Value} {ps : List (Int × Int)} (h : GS w B b P Q zs n wr v ps) (hb : Below wr.heap.size wr w') : GS w B b P Q zs n w' v ps := by
  obtain ⟨k, hs⟩ := h.src
  exact h.call (hs.grow (only_of_below hb none)) (only_of_below hb _)
theorem GS.lt {w wr : World} {B b P Q : Nat} {zs : List Int} {n : Int} {v : Value} {ps : List (Int × Int)} (h : GS w B b P Q zs n wr v ps) : Q + 1 ≤ wr.heap.size := lt_of_block h.box
theorem GS.app {w wr w8 : World} {B b P Q : Nat} {zs : List Int} {n : Int} {v v8 : Value} {ps : List (Int × Int)} {x : Int × Int} (h : GS w B b P Q zs n wr v ps) (hown : w8.ownsRow (Q + 1) 45 2 v8 (ps.length + 1) (ps.flatMap encP ++ [.int .i64 x.1, .int .i64 x.2])) (hg : wr.grownBy w8 v.ownBlock) :
    GS w B b P Q zs n (w8.setCell ⟨Q, 1, none⟩ v8) v8 (ps ++ [x]) := by
  have hOB : ∀ g, v.ownBlock = some g → Q + 1 ≤ g := fun g e => (owns_blk h.own g e).1
  have hbl := h.bl; have hlo := h.lo; have hpq := h.pq
  have hR := (hg.block P (lt_of_block h.res) (fun e => by have := hOB _ e.symm; omega)).trans h.res
  have hQ := (hg.block Q (lt_of_block h.box) (fun e => by have := hOB _ e.symm; omega)).trans h.box
  have hO : OwnP w8 (Q + 1) v8 (ps ++ [x]) := OwnP.snoc hown
  obtain ⟨k, hs⟩ := h.src
  have hsb := hs.base
  refine ⟨h.bl, h.lo, h.pq, ?_, ?_, owns_kept hO fun g e => ?_, ⟨k, (hs.kept hg (fun g e => by have := hOB g e; exact ⟨by omega, by omega⟩)).setCell ⟨Q, 1, none⟩ v8 (by show B ≤ Q; omega) (by show Q ≠ b; omega)⟩, ?_⟩
  · rw [Below.heap_setCell w8 ⟨Q, 1, none⟩ _ P (by show P ≠ Q; omega)]
    exact hR
  · have := set_cells (i := 1) (u := v8) hQ
    simpa using this
  · have hge := (owns_blk hO g e).1
    exact Below.heap_setCell w8 ⟨Q, 1, none⟩ _ g (by show g ≠ Q; omega)
  · have h1 : w.grownBy w8 (some b) := ⟨hg.os.trans h.gr.os, hg.tape.trans h.gr.tape, hg.output.trans h.gr.output, Nat.le_trans h.gr.size hg.size, fun i hi hne => (hg.block i (Nat.lt_of_lt_of_le hi h.gr.size) (fun e => by have := hOB _ e.symm; omega)).trans (h.gr.block i hi hne)⟩
    exact only_setCell h1 (.inr (by show w.heap.size ≤ Q; omega)) v8

/-- What a call that reads a graph hands back. -/
def GraphOut (w : World) (B b : Nat) (zs : List Int) (n : Nat) (e : Ending) (w' : World) : Prop :=
  ∃ (N : Nat) (ps : List (Int × Int)) (a : Option Addr) (c k : Nat), e = .returned (.agg #[.int .i64 (N : Int), .slice a ps.length c]) ∧ N ≤ n ∧ GOk (N : Int) ps ∧ ps.length ≤ 1000 ∧ OwnPairs w' w.heap.size (.slice a ps.length c) ps ∧ SrcAt w' B b zs k ∧ w.grownBy w' (some b)

set_option maxRecDepth 100000 in
set_option maxHeartbeats 8000000 in
theorem kGraph_any (n : Nat) (hn : n ≤ 20) (B b : Nat) (zs : List Int) (k0 : Nat) (w : World) (hs : SrcAt w B b zs k0) :
    Calls Tryd.prog 10 #[.pointer (some ⟨b, 0, none⟩), .int .i64 (n : Int)] w (GraphOut w B b zs n) := by
  have hb := hs.lt
  have HS1 := hidIt (hs.alloc (.cells #[.int .i64 0, .slice none 0 0] 24))
  have HG1 := hidIt (World.grownBy_alloc w (.cells #[.int .i64 0, .slice none 0 0] 24) (some b))
  have HR1 := hidIt (heap_alloc_new w (.cells #[.int .i64 0, .slice none 0 0] 24))
  have hwn : IntKind.i64.wrap ((n : Int) + 1) = (n : Int) + 1 := IntWalk.i64_in _ (by omega)
  clear hs
  go_enter Tryd.func10, Tryd.ntmps10
  go_upto_region 1 with (fail)
  generalize (w.alloc (.cells #[.int .i64 0, .slice none 0 0] 24)) = w1 at *
  go_wp2_with fail
  refine (sn_nat ((n : Int) + 1) (by omega) (by omega) B b zs _ w1 HS1.out).mono ?_
  rintro e w2 ⟨N, k2, rfl, hN, hs2, hg2⟩
  have HNN : Hid (N ≤ n) := by show N ≤ n; omega
  have hN20 : N ≤ 20 := by omega
  have hr2 := (hg2.block w.heap.size (lt_of_block HR1.out) (fun e => by injection e with e; omega)).trans HR1.out
  have HGS : Hid (GS w B b w.heap.size w2.heap.size zs (N : Int) (w2.alloc (.cells #[.int .i64 (N : Int), .slice none 0 0] 24)) (.slice none 0 0) []) :=
    ⟨hb, Nat.le_refl _, lt_of_block hr2, blk_kept2 hr2 (bgrow w2 _), heap_alloc_new w2 _, OwnP.nil _ _, ⟨k2, hs2.alloc _⟩, only_alloc (only_trans HG1.out hg2) _⟩
  clear hs2 hg2 hr2 HS1 HG1 HR1 hN
  go_upto_region 2 with (fail)
  generalize (w2.alloc (.cells #[.int .i64 (N : Int), .slice none 0 0] 24)) = w3 at *
  generalize w2.heap.size = Q at *
  obtain ⟨k3, hs3⟩ := HGS.out.src
  go_wp2_with fail
  refine (sn_nat 6 (by decide) (by decide) B b zs k3 w3 hs3).mono ?_
  rintro e w4 ⟨d, k4, rfl, hd, hs4, hg4⟩
  have HG4 := hidIt (HGS.out.call hs4 hg4)
  clear hs3 hs4 hg4 HGS
  go_wp2_with fail
  go_loopw [7, 8, 9] (fun vf _ _ wr => ∃ (f : Nat) (ps : List (Int × Int)) (a : Option Addr) (c : Nat), vf = .int .i64 (f : Int) ∧ f ≤ N ∧ Hid (Gen N f 0 ps) ∧ Hid (GS w B b w.heap.size Q zs (N : Int) wr (.slice a ps.length c) ps)) (fun vf _ _ _ => N - (intOf vf).toNat)
  case atStart => exact ⟨0, [], none, 0, (by first | rfl | trivial), Nat.zero_le _, Gen.nil N, HG4.out⟩
  case round =>
    clear HG4
    obtain ⟨f, ps0, a0, c0, rfl, hf, HGen0, HGS0⟩ := hrel
    have hf0 : (0 : Int) ≤ (f : Int) := by omega
    obtain ⟨x0, x1⟩ := And.intro (cell_two0 HGS0.out.box) (cell_two1 HGS0.out.box)
    have lx := lt_of_block HGS0.out.box
    by_cases hfl : f < N
    · have hfI : (f : Int) < (N : Int) := by omega
      go_wp2_with fail
      clear x0 x1 lx
      go_loopw [8, 9] (fun vt _ wr => ∃ (t : Nat) (ps : List (Int × Int)) (a : Option Addr) (c : Nat), vt = .int .i64 (t : Int) ∧ t ≤ N ∧ Hid (Gen N f t ps) ∧ Hid (GS w B b w.heap.size Q zs (N : Int) wr (.slice a ps.length c) ps)) (fun vt _ _ => N - (intOf vt).toNat)
      case atStart => exact ⟨0, ps0, a0, c0, (by first | rfl | trivial), Nat.zero_le _, HGen0.out, HGS0.out⟩
      case round =>
        clear HGen0 HGS0
        obtain ⟨t, ps, a, c, rfl, ht, HGen, HG⟩ := hrel
        have ht0 : (0 : Int) ≤ (t : Int) := by omega
        obtain ⟨x0, x1⟩ := And.intro (cell_two0 HG.out.box) (cell_two1 HG.out.box)
        have lx := lt_of_block HG.out.box
        by_cases htl : t < N
        · have htI : (t : Int) < (N : Int) := by omega
          obtain ⟨k5, hs5⟩ := HG.out.src
          have HS5 := hidIt hs5
          clear hs5
          go_wp2_with fail
          refine (sn_nat 12 (by decide) (by decide) B b zs k5 _ HS5.out).mono ?_
          rintro e w6 ⟨z, k6, rfl, hz, hs6, hg6⟩
          have HG6 := hidIt (HG.out.call hs6 hg6)
          have HSK := hidIt HGen.out.skip
          have HAD := hidIt (HGen.out.add hfl htl)
          have hpl : ps.length ≤ 1000 := by
            have h1 := HGen.out.len
            have h2 : f * N ≤ 19 * 20 := Nat.mul_le_mul (by omega) hN20
            omega
          clear hs6 hg6 HG HS5 x0 x1 lx
          obtain ⟨x0, x1⟩ := And.intro (cell_two0 HG6.out.box) (cell_two1 HG6.out.box)
          have lx := lt_of_block HG6.out.box
          by_cases hzd : (z : Int) < 1 + (d : Int)
          rotate_left
          · have hzb : decide ((z : Int) < 1 + (d : Int)) = false := decide_eq_false hzd
            go_wp2_with fail
            go_roundw
            case rel => exact ⟨t + 1, ps, a, c, by go_num, by omega, HSK.out, HG6.out⟩
            case measure => simp [intOf]; omega
          by_cases hft : f = t ∧ z ≠ 0
          · obtain ⟨hft1, hft2⟩ := hft
            have hb1 : ((f : Int) != (t : Int)) = false := by rw [hft1]; exact bne_self_eq_false _
            have hb2 : ((z : Int) == 0) = false := beq_eq_false_iff_ne.2 (by omega)
            clear hft1 hft2
            go_wp2_with fail
            go_roundw
            case rel => exact ⟨t + 1, ps, a, c, by go_num, by omega, HSK.out, HG6.out⟩
            case measure => simp [intOf]; omega
          have HG7 := hidIt (HG6.out.go (bgrow w6 (.cells #[.int .i64 (f : Int), .int .i64 (t : Int)] 45)))
          have hsz7 := HG7.out.lt
          obtain ⟨L, hL⟩ : ∃ L, L = ps.length := ⟨_, rfl⟩
          have HLL := hidIt hL
          rw [← hL] at hpl x1 HG7
          have HO7 : Hid (World.ownsRow (w6.alloc (.cells #[.int .i64 (f : Int), .int .i64 (t : Int)] 45)) (Q + 1) 45 2 (.slice a L c) L (ps.flatMap encP)) := by
            have h := HG7.out.own
            unfold OwnP at h
            rw [← HLL.out] at h
            exact h
          clear hL
          have hcase : (((f : Int) != (t : Int)) = true ∨ ((f : Int) != (t : Int)) = false ∧ ((z : Int) == 0) = true) := by
            by_cases e : f = t
            · right
              have hz0 : z = 0 := Classical.byContradiction fun h => hft ⟨e, h⟩
              exact ⟨by rw [e]; exact bne_self_eq_false _, by rw [hz0]; rfl⟩
            · left; exact bne_iff_ne.2 (by omega)
          clear hft
          rcases hcase with hb1 | ⟨hb1, hb2⟩
          all_goals (
            go_wp2_with (at_builtin; refine Hid.out ?_)
            refine hidIt ?_
            refine wpList_append_kb rfl _ _ elemP rfl (Q + 1) (.slice a L c) L _ rfl HO7.out _ 1 rfl #[.int .i64 (f : Int), .int .i64 (t : Int)] 45 (heap_alloc_new _ _) rfl (one_of (by rfl)) (by omega) hsz7 ?_
            intro g8 c8 w8 hown8 hg8 hbl8
            have HL8 : Hid ((ps ++ [((f : Int), (t : Int))]).length = L + 1) := by show _ = _; rw [List.length_append, HLL.out]; rfl
            have HG8 : Hid (GS w B b w.heap.size Q zs (N : Int) (w8.setCell ⟨Q, 1, none⟩ (.slice (some ⟨g8, 0, none⟩) (L + 1) c8)) (.slice (some ⟨g8, 0, none⟩) (L + 1) c8) (ps ++ [((f : Int), (t : Int))])) :=
              GS.app (x := ((f : Int), (t : Int))) HG7.out (by rw [← HLL.out]; exact hown8) hg8
            have hOB : ∀ g, (Value.slice a L c).ownBlock = some g → Q + 1 ≤ g := fun g e => (owns_blk HO7.out g e).1
            have hQ8 := (hg8.block Q (lt_of_block HG7.out.box) (fun e => by have := hOB _ e.symm; omega)).trans HG7.out.box
            have k0 := cell_two0 hQ8
            have k1 := cell_two1 hQ8
            have lk := lt_of_block hQ8
            have f8 := free_any hQ8 1
            clear hown8 hg8 hbl8 hOB HO7 HG7 HG6 hsz7 hQ8 x0 x1 lx
            go_wp2_with fail
            go_roundw
            case rel => exact ⟨t + 1, ps ++ [((f : Int), (t : Int))], some ⟨g8, 0, none⟩, c8, by go_num, by omega, HAD.out, (by rw [HL8.out]; exact HG8.out)⟩
            case measure => simp [intOf]; omega)
        · obtain rfl : t = N := by omega
          have htI : ¬ (t : Int) < (t : Int) := by omega
          have HRW := hidIt HGen.out.row
          go_wp2_with fail
          go_roundw
          case rel => exact ⟨f + 1, ps, a, c, by go_num, by omega, HRW.out, HG.out⟩
          case measure => simp [intOf]; omega
    · obtain rfl : f = N := by omega
      have hfI : ¬ (f : Int) < (f : Int) := by omega
      have hpl : Hid (ps0.length ≤ 1000) := by
        have h1 := HGen0.out.len
        have h2 : f * f ≤ 20 * 20 := Nat.mul_le_mul hN20 hN20
        show _ ≤ _
        omega
      have HOKK := hidIt (HGen0.out.ok (by omega))
      have r0 := cell_two0 HGS0.out.res
      have r1 := cell_two1 HGS0.out.res
      have lr := lt_of_block HGS0.out.res
      have g0 := free_any HGS0.out.res 0
      have g1 := free_any HGS0.out.res 1
      have hpq := HGS0.out.pq
      have HOF : Hid (∀ A C : Value, OwnPairs ((wr.setCell ⟨w.heap.size, 0, none⟩ A).setCell ⟨w.heap.size, 1, none⟩ C) w.heap.size (.slice a0 ps0.length c0) ps0) := fun A C => by
        refine (HGS0.out.own.own.kept (row := some w.heap.size) (only_setCell (only_setCell (only_refl wr (some w.heap.size)) (.inl rfl) _) (.inl rfl) _) (fun g e b2 cap2 hv2 => ?_)).mono (by omega)
        injection e with e
        have h1 := (owns_blk HGS0.out.own b2 (by rw [hv2]; rfl)).1
        omega
      have HSF : Hid (∀ A C : Value, ∃ k, SrcAt ((wr.setCell ⟨w.heap.size, 0, none⟩ A).setCell ⟨w.heap.size, 1, none⟩ C) B b zs k) := fun A C => by
        obtain ⟨k, hs⟩ := HGS0.out.src
        have hsb := hs.base
        exact ⟨k, (hs.setCell _ _ (by show B ≤ w.heap.size; omega) (by show w.heap.size ≠ b; omega)).setCell _ _ (by show B ≤ w.heap.size; omega) (by show w.heap.size ≠ b; omega)⟩
      have HGF : Hid (∀ A C : Value, w.grownBy ((wr.setCell ⟨w.heap.size, 0, none⟩ A).setCell ⟨w.heap.size, 1, none⟩ C) (some b)) := fun A C => only_setCell (only_setCell HGS0.out.gr (.inr (Nat.le_refl _)) _) (.inr (Nat.le_refl _)) _
      go_wp2_with fail
      refine bodyPost_ret (v := .agg #[.int .i64 (f : Int), .slice a0 ps0.length c0]) (by simp [results, Tryd.results10, go_sem, r0, r1, lr]) rfl ?_
      obtain ⟨k9, hk9⟩ := HSF.out (.int .i64 (f : Int)) (.slice a0 ps0.length c0)
      exact ⟨f, ps0, a0, c0, k9, rfl, HNN.out, HOKK.out, hpl.out, HOF.out _ _, hk9, HGF.out _ _⟩

/-- What a call that reads a part hands back. -/
def PartOut (w : World) (B b : Nat) (zs : List Int) (n : Nat) (e : Ending) (w' : World) : Prop :=
  ∃ (l : List Nat) (a : Option Addr) (c k : Nat), e = .returned (.slice a l.length c) ∧ Asc n l ∧ l.length ≤ n ∧ OwnI w' w.heap.size (.slice a l.length c) (ints l) ∧ SrcAt w' B b zs k ∧ w.grownBy w' (some b)
theorem Asc.snoc {i : Nat} {l : List Nat} (h : Asc i l) : Asc (i + 1) (l ++ [i]) := by
  refine ⟨?_, fun x hx => ?_⟩
  · rw [List.pairwise_append]
    exact ⟨h.up, List.pairwise_singleton _ _, fun a ha b hb => by rw [List.mem_singleton] at hb; subst hb; exact h.lt a ha⟩
  · rcases List.mem_append.1 hx with hx | hx
    · have := h.lt x hx; omega
    · rw [List.mem_singleton] at hx; omega
theorem Asc.mono {i j : Nat} {l : List Nat} (h : Asc i l) (hij : i ≤ j) : Asc j l := ⟨h.up, fun x hx => by have := h.lt x hx; omega⟩

end Go.Proofs.YtfiaoibfejginaaDoor
