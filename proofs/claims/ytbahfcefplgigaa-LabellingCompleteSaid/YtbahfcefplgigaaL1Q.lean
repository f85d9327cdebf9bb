/- The law LabellingLegal: for any two lists of numbers it answers true. -/
import Derived.Test.YtbahfcefplgigaaL1P
namespace Go.Proofs.Ytbahfcefplgigaa
set_option linter.unusedVariables false
set_option linter.unusedSimpArgs false
open Go Go.RowKit Go.Sort

theorem OwnPairs.read {w w' : World} {B b : Nat} {v : Value} {xs : List (Int × Int)} (h : OwnPairs w B v xs) (hg : w.grownBy w' (some b)) (hb : b < B) : OwnPairs w' B v xs := by
  rcases h with h | ⟨g, cap, h1, h2, h3, h4, h5, h6⟩
  · exact .inl h
  · have hk : w'.heap[g]? = w.heap[g]? := hg.block g h5 (fun e => by injection e with e; omega)
    exact .inr ⟨g, cap, h1, h2, h3, h4, Nat.lt_of_lt_of_le h5 hg.size, holds_block h6 hk⟩
theorem blk_read {w w' : World} {b g : Nat} {o : Obj} (h : w.heap[g]? = some o) (hg : w.grownBy w' (some b)) (hne : g ≠ b) : w'.heap[g]? = some o :=
  (hg.block g (lt_of_block h) (fun e => hne (by first | exact Option.some.inj e | exact (Option.some.inj e).symm))).trans h
theorem OwnI.blk {w : World} {B g n c : Nat} {zs : List Int} (h : OwnI w B (.slice (some ⟨g, 0, none⟩) n c) zs) : B ≤ g ∧ g < w.heap.size := owns_blk h g rfl
theorem OwnI.store {w : World} {B g n c : Nat} {zs : List Int} (h : OwnI w B (.slice (some ⟨g, 0, none⟩) n c) zs) (hl : zs.length = n) {j : Nat} (hj : j < n) (z : Int) :
    (∃ y, w.cell? ⟨g, j, none⟩ = some (.int .i64 y)) ∧ w.frozen? ⟨g, j, none⟩ = false ∧ OwnI (w.setCell ⟨g, j, none⟩ (.int .i64 z)) B (.slice (some ⟨g, 0, none⟩) n c) (zs.set j z) := by
  refine ⟨⟨zs[j], owns_cell h rfl j _ (by rw [List.getElem?_map, List.getElem?_eq_getElem (by omega)]; rfl)⟩, ?_, ?_⟩
  · rcases h.2 with ⟨h0, -⟩ | ⟨g', cap, cur, he, -, hg, -⟩
    · cases h0
    · injection he with he
      injection he with he
      injection he with he
      subst he
      exact free_any hg j
  · refine ⟨by rw [List.length_map, List.length_set, Nat.mul_one], ?_⟩
    rcases h.2 with ⟨h0, -⟩ | ⟨g', cap, cur, he, hB, hg, h1, h2, h3, h4⟩
    · cases h0
    · injection he with he e2 e3
      injection he with he
      injection he with he
      subst he e3
      rw [List.length_set]
      refine .inr ⟨g, c, cur.setIfInBounds j (.int .i64 z), by rw [hl], hB, set_cells hg, h1, h2, by simpa using h3, ?_⟩
      rw [Array.toList_setIfInBounds, List.map_set, ← h4, List.take_set]
theorem set_read {w : World} {g j : Nat} {u : Value} : w.grownBy (w.setCell ⟨g, j, none⟩ u) (some g) := only_setCell (only_refl w (some g)) (.inl rfl) u

/-- A list whose block lies between two places. -/
def ILr (lo hi : Nat) (w : World) (v : Value) (zs : List Int) : Prop :=
  (v = .slice none 0 0 ∧ zs = []) ∨
  ∃ (b off cap : Nat), v = .slice (some ⟨b, off, none⟩) zs.length cap ∧ zs.length ≤ cap ∧ cap ≤ maxLen ∧ b < w.heap.size ∧ (lo ≤ b ∧ b < hi) ∧ ∀ i (h : i < zs.length), w.cell? ⟨b, off + i, none⟩ = some (.int .i64 zs[i])
theorem ILr.il {lo hi : Nat} {w : World} {v : Value} {zs : List Int} (h : ILr lo hi w v zs) : IL w v zs := by
  rcases h with h | ⟨b, off, cap, h1, h2, h3, h4, h5, h6⟩
  · exact .inl h
  · exact .inr ⟨b, off, cap, h1, h2, h3, h4, h6⟩
theorem IL.r {w : World} {v : Value} {zs : List Int} (h : IL w v zs) : ILr 0 w.heap.size w v zs := by
  rcases h with h | ⟨b, off, cap, h1, h2, h3, h4, h6⟩
  · exact .inl h
  · exact .inr ⟨b, off, cap, h1, h2, h3, h4, ⟨Nat.zero_le _, h4⟩, h6⟩
theorem OwnI.r {w : World} {B : Nat} {v : Value} {zs : List Int} (h : OwnI w B v zs) : ILr B w.heap.size w v zs := by
  rcases h.2 with ⟨rfl, h0⟩ | ⟨g, cap, cur, rfl, hB, hg, hnc, hcm, -, -⟩
  · exact .inl ⟨rfl, List.eq_nil_of_length_eq_zero h0⟩
  · refine .inr ⟨g, 0, cap, rfl, hnc, hcm, lt_of_block hg, ⟨hB, lt_of_block hg⟩, fun i hi => ?_⟩
    rw [Nat.zero_add]
    exact owns_cell h rfl i _ (by rw [List.getElem?_map, List.getElem?_eq_getElem hi]; rfl)
theorem ILr.keep {lo hi : Nat} {w w' : World} {v : Value} {zs : List Int} (h : ILr lo hi w v zs) {row : Option Nat} (hg : w.grownBy w' row) (hr : ∀ q, row = some q → q < lo ∨ hi ≤ q) : ILr lo hi w' v zs := by
  rcases h with h | ⟨b, off, cap, h1, h2, h3, h4, h5, h6⟩
  · exact .inl h
  · exact .inr ⟨b, off, cap, h1, h2, h3, Nat.lt_of_lt_of_le h4 hg.size, h5, fun i hi => hg.cell (h6 i hi) (fun e => by have := hr b e.symm; omega)⟩
theorem ILr.go {lo hi : Nat} {w w' : World} {v : Value} {zs : List Int} (h : ILr lo hi w v zs) (hb : Below w.heap.size w w') : ILr lo hi w' v zs := h.keep (only_of_below hb none) (fun q e => by cases e)
/-- Pairs whose block lies between two places. -/
def PRr (lo hi : Nat) (w : World) (v : Value) (xs : List (Int × Int)) : Prop :=
  (v = .slice none 0 0 ∧ xs = []) ∨
  ∃ (b off cap : Nat), v = .slice (some ⟨b, off, none⟩) xs.length cap ∧ xs.length ≤ cap ∧ cap ≤ maxLen ∧ b < w.heap.size ∧ (lo ≤ b ∧ b < hi) ∧
    ∀ i, i < xs.length → w.cell? ⟨b, off + i * 2, none⟩ = some (.int .i64 (xs[i]!).1) ∧ w.cell? ⟨b, off + i * 2 + 1, none⟩ = some (.int .i64 (xs[i]!).2)
theorem PRr.at_ {lo hi : Nat} {w : World} {v : Value} {xs : List (Int × Int)} (h : PRr lo hi w v xs) : PairsAt w v xs := by
  rcases h with h | ⟨b, off, cap, h1, h2, h3, h4, h5, h6⟩
  · exact .inl h
  · exact .inr ⟨b, off, cap, h1, h2, h3, h4, h6⟩
theorem OwnPairs.r {w : World} {B : Nat} {v : Value} {xs : List (Int × Int)} (h : OwnPairs w B v xs) : PRr B w.heap.size w v xs := by
  have h2 := h.lits
  rcases h with h | ⟨g, cap, h1, h3, h4, h5, h6, h7⟩
  · exact .inl h
  · rcases h2 with ⟨e, -⟩ | ⟨b, off, cap', e1, e2, e3, e4, e5⟩
    · rw [h1] at e; cases e
    · rw [h1] at e1
      injection e1 with e1 e6 e7
      injection e1 with e1
      injection e1 with e1 e8
      subst e1 e8 e7
      exact .inr ⟨g, 0, cap, h1, e2, e3, e4, ⟨by first | exact h5 | exact h4 | exact h3, e4⟩, e5⟩
theorem PRr.keep {lo hi : Nat} {w w' : World} {v : Value} {xs : List (Int × Int)} (h : PRr lo hi w v xs) {row : Option Nat} (hg : w.grownBy w' row) (hr : ∀ q, row = some q → q < lo ∨ hi ≤ q) : PRr lo hi w' v xs := by
  rcases h with h | ⟨b, off, cap, h1, h2, h3, h4, h5, h6⟩
  · exact .inl h
  · exact .inr ⟨b, off, cap, h1, h2, h3, Nat.lt_of_lt_of_le h4 hg.size, h5, fun i hi => ⟨hg.cell (h6 i hi).1 (fun e => by have := hr b e.symm; omega), hg.cell (h6 i hi).2 (fun e => by have := hr b e.symm; omega)⟩⟩
theorem PRr.go {lo hi : Nat} {w w' : World} {v : Value} {xs : List (Int × Int)} (h : PRr lo hi w v xs) (hb : Below w.heap.size w w') : PRr lo hi w' v xs := h.keep (only_of_below hb none) (fun q e => by cases e)
theorem blk_keep {w w' : World} {g : Nat} {o : Obj} {row : Option Nat} (h : w.heap[g]? = some o) (hg : w.grownBy w' row) (hne : ∀ q, row = some q → q ≠ g) : w'.heap[g]? = some o := (hg.block g (lt_of_block h) (fun e => hne g e.symm rfl)).trans h

set_option maxRecDepth 100000 in
set_option maxHeartbeats 4000000 in
theorem legal_walk (v1 : Value) (raw : List Int) (lv : Value) (zs : List Int) (w : World) (h1 : IL w v1 raw) (hz : IntsAt w w.heap.size lv zs) :
    Calls Try.prog 3 #[v1, lv] w fun e w' => e = .returned (.bool true) ∧ Below w.heap.size w w' := by
  have HZ := hidIt hz
  have H1 := hidIt h1.r
  obtain ⟨ra, rc, rfl, -⟩ := h1.form
  clear hz h1
  by_cases la : 60 < raw.length
  · have la' : (60 : Int) < (raw.length : Int) := by omega
    go_enter Try.func3, Try.ntmps3
    go_wp2_with fail
    go_ret
    exact ⟨rfl, Below.refl _ _⟩
  have la' : ¬ (60 : Int) < (raw.length : Int) := by omega
  have HLR : Hid (raw.length ≤ 60) := by show _ ≤ _; omega
  clear la
  go_enter Try.func3, Try.ntmps3
  go_wp2_with fail
  clear la'
  refine (new_any lv zs w.heap.size w HZ.out (Nat.le_refl _)).mono ?_
  rintro e w1 ⟨zs', rfl, hs1, o1, rfl⟩
  have HS1 := hidIt hs1
  have HB1 := hidIt (bgrow w o1)
  have HR1 := hidIt (H1.out.go HB1.out)
  have hsz1 : w.heap.size < (w.alloc o1).heap.size := hs1.lt
  clear hs1
  generalize w.alloc o1 = w1 at *
  go_wp2_with fail
  refine (kGraph_any 8 (by decide) _ _ _ _ w1 HS1.out).mono ?_
  rintro e w2 ⟨N, ps, ga, gc, k2, rfl, hN, hok, hpl, hop, hs2, hg2⟩
  have HOK := hidIt hok
  have HPS := hidIt hpl
  have hgr := bgrow w2 (.cells #[.int .i64 (N : Int), .slice ga ps.length gc] 27)
  have HO3 := hidIt (hop.r.go hgr)
  have HR3 := hidIt ((HR1.out.keep hg2 (fun q e => by injection e with e; omega)).go hgr)
  have HS3 := hidIt (hs2.alloc (.cells #[.int .i64 (N : Int), .slice ga ps.length gc] 27))
  have HX3 := hidIt (heap_alloc_new w2 (.cells #[.int .i64 (N : Int), .slice ga ps.length gc] 27))
  have HB2 := hidIt (below_read HB1.out hg2 (Nat.le_of_lt hsz1))
  have HB3 := hidIt (HB2.out.trans (Below.mono hgr HB2.out.size))
  have hG : w.heap.size < w2.heap.size := Nat.lt_of_lt_of_le hsz1 hg2.size
  clear hok hpl hop hs2 hg2 hgr HB2 HS1 HB1 HR1
  go_upto_region 5 with (fail)
  generalize hw3 : (w2.alloc (.cells #[.int .i64 (N : Int), .slice ga ps.length gc] 27)) = w3 at *
  have hsz3 : w.heap.size < w3.heap.size := by rw [← hw3, World.size_alloc]; omega
  have hGsz : w2.heap.size < w3.heap.size := by rw [← hw3, World.size_alloc]; omega
  clear hw3
  generalize w2.heap.size = G at *
  obtain ⟨x0, x1⟩ := And.intro (cell_two0 HX3.out) (cell_two1 HX3.out)
  have lx := lt_of_block HX3.out
  go_wp2_with fail
  refine (kLabels_any N (by omega) _ _ _ _ w3 HS3.out).mono ?_
  rintro e w4 ⟨good, aa, ac, k4, rfl, hgl, hgo, hoa, hs4, hg4⟩
  have HGL := hidIt hgl
  have HA4 := hidIt hoa.r
  have HS4 := hidIt hs4
  have HR4 := hidIt (HR3.out.keep hg4 (fun q e => by injection e with e; omega))
  have HO4 := hidIt (HO3.out.keep hg4 (fun q e => by injection e with e; omega))
  have HX4 := hidIt (blk_keep HX3.out hg4 (fun q e => by injection e with e; omega))
  have HB4 := hidIt (below_read HB3.out hg4 (Nat.le_of_lt hsz3))
  have hsz4 : w.heap.size < w4.heap.size := Nat.lt_of_lt_of_le hsz3 hg4.size
  have hsz34 : w3.heap.size ≤ w4.heap.size := hg4.size
  have hroom := hoa.il.room
  have hac : N ≤ ac := by omega
  have hacm : ac ≤ 9223372036854775807 := by have := hroom.2; unfold maxLen at this; omega
  have HAF : Hid (IL w4 (.slice aa N N) good) := by
    show IL _ _ _
    rcases hoa.il with ⟨h, h2⟩ | ⟨b, off, cap, h1, h2, h3, h4, h5⟩
    · injection h with e1 e2 e3
      subst e1 e2
      exact .inl ⟨rfl, h2⟩
    · injection h1 with e1 e2 e3
      subst e1
      exact .inr ⟨b, off, N, by rw [hgl], by omega, by unfold maxLen; omega, h4, h5⟩
  clear hgl hgo hoa hs4 hg4 HO3 HS3 HX3 HB3 HR3 x0 x1 lx hroom
  have hacI : (N : Int) ≤ (ac : Int) := by omega
  have hN0 : (0 : Int) ≤ (N : Int) := by omega
  have hgr := bgrow w4 (.cells #[.int .i64 1] 3)
  have HAF5 := hidIt (HAF.out.below hgr)
  have HA5 := hidIt (HA4.out.go hgr)
  have HR5 := hidIt (HR4.out.go hgr)
  have HS5 := hidIt (HS4.out.alloc (.cells #[.int .i64 1] 3))
  have HO5 := hidIt (HO4.out.go hgr)
  have HX5 := hidIt (blk_kept2 HX4.out hgr)
  have HB5 := hidIt (HB4.out.trans (Below.mono hgr HB4.out.size))
  have hsz5 : w4.heap.size ≤ (w4.alloc (.cells #[.int .i64 1] 3)).heap.size := hgr.size
  clear hgr HA4 HS4 HO4 HX4 HB4 HAF HR4
  go_wp2_with (at_builtin; refine Hid.out ?_)
  refine hidIt ?_
  refine wpList_append_full rfl (.tmp 27) (.tmp 28) rfl aa N good rfl HAF5.out (by omega) _ 1 rfl 1 3 (heap_alloc_new _ _) ?_
  intro g6 c6 w6 hod6 hb6
  have HA6 := hidIt (HA5.out.go hb6)
  have HR6 := hidIt (HR5.out.go hb6)
  have HS6 := hidIt (HS5.out.grow (only_of_below hb6 none))
  have HO6 := hidIt (HO5.out.go hb6)
  have HX6 := hidIt (blk_kept2 HX5.out hb6)
  have HB6 := hidIt (HB5.out.trans (Below.mono hb6 HB5.out.size))
  have HD6 := hidIt hod6.r
  have HDL : Hid ((good ++ [1]).length = N + 1) := by show _ = _; rw [List.length_append, HGL.out]; rfl
  have hsz6 : w4.heap.size ≤ w6.heap.size := Nat.le_trans hsz5 hb6.size
  clear hod6 hb6 HA5 HR5 HS5 HO5 HX5 HB5 HAF5
  by_cases hNz : 0 < N
  case' pos =>
    have hNI : (0 : Int) < (N : Int) := by omega
    have hgr := bgrow w6 (.cells #[] 3)
    have HA7 := hidIt (HA6.out.go hgr)
    go_wp2_with (at_builtin; refine Hid.out ?_)
    refine hidIt ?_
    refine wpList_append_ints rfl (.tmp 33) (.tmp 34) rfl w6.heap.size w6.heap.size (Nat.le_refl _) (heap_alloc_new _ _) rfl aa N ac good rfl HA7.out.il (by omega) ?_
    intro g8 c8 w8 ho8 hg8
    have hb8 : Below w6.heap.size w6 w8 := below_app5 hgr hg8 (fun g e => by injection e with e; omega) hgr.size
    have HA8 := hidIt (HA6.out.go hb8)
    have HR8 := hidIt (HR6.out.go hb8)
    have HS8 := hidIt (HS6.out.grow (only_of_below hb8 none))
    have HO8 := hidIt (HO6.out.go hb8)
    have HX8 := hidIt (blk_kept2 HX6.out hb8)
    have HB8 := hidIt (HB6.out.trans (Below.mono hb8 HB6.out.size))
    have HW8 := hidIt ho8
    have hsz8 : w6.heap.size ≤ w8.heap.size := hb8.size
    clear hgr HA7 ho8 hg8 hb8 HA6 HR6 HS6 HO6 HX6 HB6 HD6 HDL
    go_wp2_with fail
    refine (sn_nat (N : Int) (by omega) (by omega) _ _ _ _ w8 HS8.out).mono ?_
    rintro e w9 ⟨j, k9, rfl, hj, hs9, hg9⟩
    have HA9 := hidIt (HA8.out.keep hg9 (fun q e => by injection e with e; omega))
    have HR9 := hidIt (HR8.out.keep hg9 (fun q e => by injection e with e; omega))
    have HO9 := hidIt (HO8.out.keep hg9 (fun q e => by injection e with e; omega))
    have HX9 := hidIt (blk_keep HX8.out hg9 (fun q e => by injection e with e; omega))
    have HB9 := hidIt (below_read HB8.out hg9 (by omega))
    have HW9 := hidIt (HW8.out.read hg9 (by omega))
    have HS9 := hidIt hs9
    have hsz9 : w6.heap.size ≤ w9.heap.size := Nat.le_trans hsz8 hg9.size
    clear hs9 hg9 HA8 HR8 HS8 HO8 HX8 HB8 HW8
    go_wp2_with fail
    refine (sn_nat 6 (by decide) (by decide) _ _ _ _ w9 HS9.out).mono ?_
    rintro e w10 ⟨z, k10, rfl, hz, hs10, hg10⟩
    have HA10 := hidIt (HA9.out.keep hg10 (fun q e => by injection e with e; omega))
    have HR10 := hidIt (HR9.out.keep hg10 (fun q e => by injection e with e; omega))
    have HO10 := hidIt (HO9.out.keep hg10 (fun q e => by injection e with e; omega))
    have HX10 := hidIt (blk_keep HX9.out hg10 (fun q e => by injection e with e; omega))
    have HB10 := hidIt (below_read HB9.out hg10 (by omega))
    have HW10 := hidIt (HW9.out.read hg10 (by omega))
    have HS10 := hidIt hs10
    have hsz10 : w6.heap.size ≤ w10.heap.size := Nat.le_trans hsz9 hg10.size
    clear hs10 hg10 HA9 HR9 HS9 HO9 HX9 HB9 HW9
    have hwz : IntKind.i64.wrap ((z : Int) - 1) = (z : Int) - 1 := IntWalk.i64_in _ (by omega)
    have hjI0 : (0 : Int) ≤ (j : Int) := by omega
    obtain ⟨⟨y8, cy8⟩, f8, hst⟩ := HW10.out.store HGL.out (j := j) (by omega) ((z : Int) - 1)
    have lg8 := HW10.out.blk.2
    have hg6 := HW10.out.blk.1
    have hg11 := set_read (w := w10) (g := g8) (j := j) (u := .int .i64 ((z : Int) - 1))
    have hb11 : Below w6.heap.size w10 (w10.setCell ⟨g8, j, none⟩ (.int .i64 ((z : Int) - 1))) := below_set5 (Below.refl _ _) hg6
    have HA11 := hidIt (HA10.out.keep hg11 (fun q e => by injection e with e; omega))
    have HR11 := hidIt (HR10.out.keep hg11 (fun q e => by injection e with e; omega))
    have HO11 := hidIt (HO10.out.keep hg11 (fun q e => by injection e with e; omega))
    have HX11 := hidIt (blk_keep HX10.out hg11 (fun q e => by injection e with e; omega))
    have HS11 := hidIt (HS10.out.kept hg11 (fun q e => by injection e with e; omega))
    have HB11 := hidIt (HB10.out.trans (Below.mono hb11 (by omega)))
    have HD11 : Hid (ILr w6.heap.size (w10.setCell ⟨g8, j, none⟩ (.int .i64 ((z : Int) - 1))).heap.size (w10.setCell ⟨g8, j, none⟩ (.int .i64 ((z : Int) - 1))) (.slice (some ⟨g8, 0, none⟩) N c8) (good.set j ((z : Int) - 1))) := hst.r
    have HDL : Hid ((good.set j ((z : Int) - 1)).length = N) := by show _ = _; rw [List.length_set]; exact HGL.out
    have hsz11 : w6.heap.size ≤ (w10.setCell ⟨g8, j, none⟩ (.int .i64 ((z : Int) - 1))).heap.size := by rw [size_setCell9]; exact hsz10
    clear hst hg11 hb11 HA10 HR10 HO10 HX10 HS10 HB10 HW10
    generalize (good.set j ((z : Int) - 1)) = odd at *
    obtain ⟨x0, x1⟩ := And.intro (cell_two0 HX11.out) (cell_two1 HX11.out)
    have lx := lt_of_block HX11.out
    go_upto_region 10 with (fail)
    clear cy8 f8 lg8 hg6 hwz hjI0 hj hz x0 x1 lx
    generalize (w10.setCell ⟨g8, j, none⟩ (.int .i64 ((z : Int) - 1))) = w11 at *
    clear hsz8 hsz9 hsz10 hNI
    obtain ⟨x0, x1⟩ := And.intro (cell_two0 HX11.out) (cell_two1 HX11.out)
    have lx := lt_of_block HX11.out
    go_wp2_with fail
    refine (kLabels_any N (by omega) _ _ _ _ w11 HS11.out).mono ?_
    rintro e w12 ⟨lab, la, lc, k12, rfl, hll, -, hlo, -, hg12⟩
    have HA12 := hidIt (HA11.out.keep hg12 (fun q e => by injection e with e; omega)).il
    have HR12 := hidIt (HR11.out.keep hg12 (fun q e => by injection e with e; omega)).il
    have HD12 := hidIt (HD11.out.keep hg12 (fun q e => by injection e with e; omega)).il
    have HO12 := hidIt (HO11.out.keep hg12 (fun q e => by injection e with e; omega)).at_
    have HX12 := hidIt (blk_keep HX11.out hg12 (fun q e => by injection e with e; omega))
    have HB12 := hidIt (below_read HB11.out hg12 (by omega))
    have HL12 := hidIt hlo.il
    have hg13 := bgrow w12 (.cells #[.slice ra raw.length rc, .slice aa N ac, .slice (some ⟨g8, 0, none⟩) N c8, .slice la N lc, .slice none 0 0] 22)
    have HLL : Hid (LL (w12.alloc (.cells #[.slice ra raw.length rc, .slice aa N ac, .slice (some ⟨g8, 0, none⟩) N c8, .slice la N lc, .slice none 0 0] 22)) (.slice (some ⟨w12.heap.size, 0, none⟩) 5 5) [raw, good, odd, lab, []]) :=
      ll_blk (zss := [raw, good, odd, lab, []]) (heap_alloc_new w12 _) rfl (Nat.le_refl 5) (by decide) (fun i h1 h2 => by
        match i, h1 with
        | 0, _ => exact HR12.out.below hg13
        | 1, _ => exact HA12.out.below hg13
        | 2, _ => exact HD12.out.below hg13
        | 3, _ => exact HL12.out.below hg13
        | 4, _ => exact .inl ⟨rfl, rfl⟩)
    have HSH : Hid (Sh [raw, good, odd, lab, []]) := fun i h => by
      match i, h with
      | 0, _ => exact HLR.out
      | 1, _ => show good.length ≤ 60; rw [HGL.out]; omega
      | 2, _ => show odd.length ≤ 60; rw [HDL.out]; omega
      | 3, _ => show lab.length ≤ 60; rw [hll]; omega
      | 4, _ => exact Nat.zero_le _
    have HX13 := hidIt (blk_kept2 HX12.out hg13)
    have HO13 := hidIt (HO12.out.below hg13)
    have HB13 := hidIt (HB12.out.trans (Below.mono hg13 HB12.out.size))
    clear hll hlo hg12 hg13 HA12 HR12 HD12 HO12 HX12 HB12 HL12 HA11 HR11 HD11 HO11 HX11 HB11 HS11 x0 x1 lx
    go_upto_region 11 with (fail)
    generalize (w12.alloc (.cells #[.slice ra raw.length rc, .slice aa N ac, .slice (some ⟨g8, 0, none⟩) N c8, .slice la N lc, .slice none 0 0] 22)) = w13 at *
    generalize w12.heap.size = Z at *
    generalize [raw, good, odd, lab, []] = pss at *
    obtain ⟨ld, lcap, hle, hll⟩ := HLL.out.form
    injection hle with hle1 hle2 hle3
    subst hle1 hle3
    have HPL : Hid (5 = pss.length) := hle2
    have HLC := hidIt hll
    clear hle2 hll HLL
    go_loopw [10, 54] (fun _ i wr => ∃ k : Nat, k ≤ 5 ∧ i = .int .i64 k ∧ Hid (Below w13.heap.size w13 wr)) (fun _ i _ => 5 - (intOf i).toNat)
    case atStart => exact ⟨0, Nat.zero_le _, (by first | rfl | trivial), Below.refl _ _⟩
    case round =>
      obtain ⟨k, hk, rfl, HB⟩ := hrel
      have hkI0 : (0 : Int) ≤ (k : Int) := by omega
      by_cases hlt : k < 5
      · have hkI : (k : Int) < 5 := by omega
        have hkp : k < pss.length := by have := HPL.out; omega
        obtain ⟨gb, go, u, hgu, lu, cu, iu⟩ := HLC.out k hkp
        injection hgu with hgu
        injection hgu with hgu1 hgu2
        subst hgu1 hgu2
        have cu2 := (Below.cell (p := ⟨Z, 0 + k, none⟩) HB.out lu).trans cu
        rw [Nat.zero_add] at cu2
        have lu2 := Nat.lt_of_lt_of_le lu HB.out.size
        have HPP := hidIt (iu.below HB.out)
        have HPQ := hidIt (HSH.out k hkp)
        generalize pss[k] = p at *
        obtain ⟨pa, pc, rfl, -⟩ := HPP.out.form
        clear cu lu iu hkp
        have HXr := hidIt (blk_kept2 HX13.out HB.out)
        have HOr := hidIt (HO13.out.below HB.out)
        obtain ⟨x0, x1⟩ := And.intro (cell_two0 HXr.out) (cell_two1 HXr.out)
        have lx := lt_of_block HXr.out
        have LP : p.length ≤ 1000 := by have := HPQ.out; omega
        have CV1 : Hid (∀ wx, Ext wr wx → Calls Try.prog 13 #[.agg #[.int .i64 (N : Int), .slice ga ps.length gc], .slice pa p.length pc] wx fun e w'' => ∃ u, e = .returned u ∧ Ext wr w'' ∧ Grows wx w'' ∧ isB (validB N p) u w'') := fun wx hC => rel_call hC ((lValid_any N _ _ ps p wx (HOr.out.below hC) HOK.out HPS.out (HPP.out.below hC) LP).mono fun e w'' ⟨h1, h2⟩ => ⟨_, h1, rfl, h2⟩)
        have CV2 : Hid (∀ wx, Ext wr wx → Calls Try.prog 14 #[.agg #[.int .i64 (N : Int), .slice ga ps.length gc], .slice pa p.length pc] wx fun e w'' => ∃ u, e = .returned u ∧ Ext wr w'' ∧ Grows wx w'' ∧ isB (validB N p) u w'') := fun wx hC => rel_call hC ((rlValid_any N _ _ ps p wx (HOr.out.below hC) (HPP.out.below hC) LP).mono fun e w'' ⟨h1, h2⟩ => ⟨_, h1, rfl, h2⟩)
        have CI1 : Hid (∀ wx, Ext wr wx → Calls Try.prog 16 #[.agg #[.int .i64 (N : Int), .slice ga ps.length gc], .slice pa p.length pc] wx fun e w'' => ∃ u, e = .returned u ∧ Ext wr w'' ∧ Grows wx w'' ∧ isL (illL N ps p).length (ints (illL N ps p)) u w'') := fun wx hC => rel_call hC ((lIllegal_any N _ _ ps p wx (HOr.out.below hC) HOK.out HPS.out (HPP.out.below hC) LP).mono fun e w'' ⟨a, c, h1, h2, h3⟩ => ⟨_, h1, ⟨a, c, rfl, h2.il⟩, h3⟩)
        have CI2 : Hid (∀ wx, Ext wr wx → Calls Try.prog 17 #[.agg #[.int .i64 (N : Int), .slice ga ps.length gc], .slice pa p.length pc] wx fun e w'' => ∃ u, e = .returned u ∧ Ext wr w'' ∧ Grows wx w'' ∧ isL (illL N ps p).length (ints (illL N ps p)) u w'') := fun wx hC => rel_call hC ((rlIllegal_any N _ _ ps p wx (HOr.out.below hC) HOK.out HPS.out (HPP.out.below hC) LP).mono fun e w'' ⟨a, c, h1, h2, h3⟩ => ⟨_, h1, ⟨a, c, rfl, h2.il⟩, h3⟩)
        have CC1 : Hid (∀ wx, Ext wr wx → Calls Try.prog 18 #[.agg #[.int .i64 (N : Int), .slice ga ps.length gc], .slice pa p.length pc] wx fun e w'' => ∃ u, e = .returned u ∧ Ext wr w'' ∧ Grows wx w'' ∧ isB (validB N p && decide ((illL N ps p).length = 0)) u w'') := fun wx hC => rel_call hC ((lIsComplete_any N _ _ ps p wx (HOr.out.below hC) HOK.out HPS.out (HPP.out.below hC) LP).mono fun e w'' ⟨h1, h2⟩ => ⟨_, h1, rfl, h2⟩)
        have CC2 : Hid (∀ wx, Ext wr wx → Calls Try.prog 19 #[.agg #[.int .i64 (N : Int), .slice ga ps.length gc], .slice pa p.length pc] wx fun e w'' => ∃ u, e = .returned u ∧ Ext wr w'' ∧ Grows wx w'' ∧ isB (validB N p && decide ((illL N ps p).length = 0)) u w'') := fun wx hC => rel_call hC ((rlIsComplete_any N _ _ ps p wx (HOr.out.below hC) HOK.out HPS.out (HPP.out.below hC) LP).mono fun e w'' ⟨h1, h2⟩ => ⟨_, h1, rfl, h2⟩)
        have HIN : Hid ((ints (illL N ps p)).length ≤ 1000000) := by show _ ≤ _; rw [ints_len]; have := illL_len N ps p; omega
        have CK : Hid (∀ wx a1 c1 a2 c2, Ext wr wx → IL wx (.slice a1 (illL N ps p).length c1) (ints (illL N ps p)) → IL wx (.slice a2 (illL N ps p).length c2) (ints (illL N ps p)) → Calls Try.prog 15 #[.slice a1 (illL N ps p).length c1, .slice a2 (illL N ps p).length c2] wx fun e w'' => ∃ u, e = .returned u ∧ Ext wr w'' ∧ Grows wx w'' ∧ isB true u w'') := fun wx a1 c1 a2 c2 hC h1 h2 => rel_call hC ((kInts_any _ _ _ _ wx h1 h2 HIN.out HIN.out).mono fun e w'' ⟨h3, h4⟩ => ⟨_, h3, (by rw [decide_eq_true rfl]; rfl), h4⟩)
        clear HPP LP HIN HOr
        go_wp2_with fail
        clear cu2 lu2
        generalize (validB N p && decide ((illL N ps p).length = 0)) = CP at *
        generalize validB N p = VP at *
        generalize ints (illL N ps p) = is_ at *
        generalize (illL N ps p).length = il_ at *
        have X0 : ∀ wx, Ext wr wx → wx.cell? ⟨G, 0, none⟩ = some (.int .i64 (N : Int)) := fun wx hC => (Below.cell (p := ⟨G, 0, none⟩) hC lx).trans x0
        have X1 : ∀ wx, Ext wr wx → wx.cell? ⟨G, 1, none⟩ = some (.slice ga ps.length gc) := fun wx hC => (Below.cell (p := ⟨G, 1, none⟩) hC lx).trans x1
        haveI := Ext.nonempty wr
        refine wp_region_rel (Ext wr) Grows (relTab [(60, isB VP), (63, isB VP), (68, isL il_ is_), (71, isL il_ is_), (72, isB true), (78, isB CP), (81, isB CP)]) (by kernel_rfl) (by kernel_rfl) (by kernel_rfl) (stable_cons (isB_up _) (stable_cons (isB_up _) (stable_cons (isL_up _ _) (stable_cons (isL_up _ _) (stable_cons (isB_up _) (stable_cons (isB_up _) (stable_cons (isB_up _) (stable_nil _)))))))) (Ext.start wr) ?_
        repeat (
          refine' walkR_plain (by kernel_rfl) rfl rfl (fun wx hC hL => ?_) ?_
          rotate_left
          · (have hlx := Nat.lt_of_lt_of_le lx (Below.size hC)
             simp only [X0 wx hC, X1 wx hC, hlx, go_sem]; first | done | (go_simp; exact ⟨rfl, rfl⟩))
          simp only [Act.put, List.setIfInBounds_toArray, List.set_cons_zero, List.set_cons_succ])
        refine walkR_rel (by kernel_rfl) rfl rfl (of_decide_eq_true (by kernel_rfl)) (fun wx hC hL => ?_) (fun v hv => ?_)
        · go_simp
          exact CV1.out wx hC
        obtain ⟨_, _, rfl⟩ := hv
        simp only [Act.put, List.setIfInBounds_toArray, List.set_cons_zero, List.set_cons_succ]
        repeat (
          refine' walkR_plain (by kernel_rfl) rfl rfl (fun wx hC hL => ?_) ?_
          rotate_left
          · (have hlx := Nat.lt_of_lt_of_le lx (Below.size hC)
             simp only [X0 wx hC, X1 wx hC, hlx, go_sem]; first | done | (go_simp; exact ⟨rfl, rfl⟩))
          simp only [Act.put, List.setIfInBounds_toArray, List.set_cons_zero, List.set_cons_succ])
        refine walkR_rel (by kernel_rfl) rfl rfl (of_decide_eq_true (by kernel_rfl)) (fun wx hC hL => ?_) (fun v hv => ?_)
        · go_simp
          exact CV2.out wx hC
        obtain ⟨_, _, rfl⟩ := hv
        simp only [Act.put, List.setIfInBounds_toArray, List.set_cons_zero, List.set_cons_succ]
        repeat (
          refine' walkR_plain (by kernel_rfl) rfl rfl (fun wx hC hL => ?_) ?_
          rotate_left
          · (have hlx := Nat.lt_of_lt_of_le lx (Below.size hC)
             simp only [X0 wx hC, X1 wx hC, hlx, go_sem]; first | done | (go_simp; exact ⟨rfl, rfl⟩))
          simp only [Act.put, List.setIfInBounds_toArray, List.set_cons_zero, List.set_cons_succ])
        refine walkR_rel (by kernel_rfl) rfl rfl (of_decide_eq_true (by kernel_rfl)) (fun wx hC hL => ?_) (fun v hv => ?_)
        · go_simp
          exact CI1.out wx hC
        obtain ⟨_, _, a68, c68, rfl, -⟩ := hv
        simp only [Act.put, List.setIfInBounds_toArray, List.set_cons_zero, List.set_cons_succ]
        repeat (
          refine' walkR_plain (by kernel_rfl) rfl rfl (fun wx hC hL => ?_) ?_
          rotate_left
          · (have hlx := Nat.lt_of_lt_of_le lx (Below.size hC)
             simp only [X0 wx hC, X1 wx hC, hlx, go_sem]; first | done | (go_simp; exact ⟨rfl, rfl⟩))
          simp only [Act.put, List.setIfInBounds_toArray, List.set_cons_zero, List.set_cons_succ])
        refine walkR_rel (by kernel_rfl) rfl rfl (of_decide_eq_true (by kernel_rfl)) (fun wx hC hL => ?_) (fun v hv => ?_)
        · go_simp
          exact CI2.out wx hC
        obtain ⟨_, _, a71, c71, rfl, -⟩ := hv
        simp only [Act.put, List.setIfInBounds_toArray, List.set_cons_zero, List.set_cons_succ]
        refine walkR_rel (by kernel_rfl) rfl rfl (of_decide_eq_true (by kernel_rfl)) (fun wx hC hL => ?_) (fun v hv => ?_)
        · have h68 : isL il_ is_ (.slice a68 il_ c68) wx := hL.get 68 (by simp [more]) (by kernel_rfl) rfl rfl
          have h71 : isL il_ is_ (.slice a71 il_ c71) wx := hL.get 71 (by simp [more]) (by kernel_rfl) rfl rfl
          have i68 := hidIt h68.il
          have i71 := hidIt h71.il
          clear h68 h71
          go_simp
          exact CK.out wx a68 c68 a71 c71 hC i68.out i71.out
        obtain ⟨_, _, rfl⟩ := hv
        simp only [Act.put, List.setIfInBounds_toArray, List.set_cons_zero, List.set_cons_succ]
        repeat (
          refine' walkR_plain (by kernel_rfl) rfl rfl (fun wx hC hL => ?_) ?_
          rotate_left
          · (have hlx := Nat.lt_of_lt_of_le lx (Below.size hC)
             simp only [X0 wx hC, X1 wx hC, hlx, go_sem]; first | done | (go_simp; exact ⟨rfl, rfl⟩))
          simp only [Act.put, List.setIfInBounds_toArray, List.set_cons_zero, List.set_cons_succ])
        refine walkR_rel (by kernel_rfl) rfl rfl (of_decide_eq_true (by kernel_rfl)) (fun wx hC hL => ?_) (fun v hv => ?_)
        · go_simp
          exact CC1.out wx hC
        obtain ⟨_, _, rfl⟩ := hv
        simp only [Act.put, List.setIfInBounds_toArray, List.set_cons_zero, List.set_cons_succ]
        repeat (
          refine' walkR_plain (by kernel_rfl) rfl rfl (fun wx hC hL => ?_) ?_
          rotate_left
          · (have hlx := Nat.lt_of_lt_of_le lx (Below.size hC)
             simp only [X0 wx hC, X1 wx hC, hlx, go_sem]; first | done | (go_simp; exact ⟨rfl, rfl⟩))
          simp only [Act.put, List.setIfInBounds_toArray, List.set_cons_zero, List.set_cons_succ])
        refine walkR_rel (by kernel_rfl) rfl rfl (of_decide_eq_true (by kernel_rfl)) (fun wx hC hL => ?_) (fun v hv => ?_)
        · go_simp
          exact CC2.out wx hC
        obtain ⟨_, _, rfl⟩ := hv
        simp only [Act.put, List.setIfInBounds_toArray, List.set_cons_zero, List.set_cons_succ]
        repeat (
          refine' walkR_plain (by kernel_rfl) rfl rfl (fun wx hC hL => ?_) ?_
          rotate_left
          · (have hlx := Nat.lt_of_lt_of_le lx (Below.size hC)
             simp only [X0 wx hC, X1 wx hC, hlx, go_sem]; first | done | (go_simp; exact ⟨rfl, rfl⟩))
          simp only [Act.put, List.setIfInBounds_toArray, List.set_cons_zero, List.set_cons_succ])
        refine fun w20 hC20 hK => ?_
        have hb20 : Below wr.heap.size wr w20 := hC20
        have HBZ := hidIt (HB.out.trans (Below.mono hb20 HB.out.size))
        clear hb20 hC20 hK X0 X1 x0 x1 lx
        go_wp2_with fail
        go_roundw
        case rel => exact ⟨k + 1, by omega, by go_num, HBZ.out⟩
        case measure => simp [intOf]; omega
      · obtain rfl : k = 5 := by omega
        go_wp2_with fail
        refine (awake11_any _).mono ?_
        rintro e w8 ⟨rfl, hb⟩
        have HBF := hidIt ((HB13.out.trans (Below.mono HB.out HB13.out.size)).trans (Below.mono hb (Nat.le_trans HB13.out.size HB.out.size)))
        clear hb
        go_wp2_with fail
        go_ret
        exact ⟨rfl, HBF.out⟩
  case' neg =>
    have hNI : ¬ (0 : Int) < (N : Int) := by omega
    have hsz11 : w4.heap.size ≤ w6.heap.size := hsz6
    have HA11 := HA6
    have HR11 := HR6
    have HS11 := HS6
    have HO11 := HO6
    have HX11 := HX6
    have HB11 := HB6
    have HD11 := HD6
    clear HA6 HR6 HS6 HO6 HX6 HB6 HD6
    generalize (good ++ [1]) = odd at *
    go_upto_region 10 with (fail)
    clear hNI
    obtain ⟨x0, x1⟩ := And.intro (cell_two0 HX11.out) (cell_two1 HX11.out)
    have lx := lt_of_block HX11.out
    go_wp2_with fail
    refine (kLabels_any N (by omega) _ _ _ _ w6 HS11.out).mono ?_
    rintro e w12 ⟨lab, la, lc, k12, rfl, hll, -, hlo, -, hg12⟩
    have HA12 := hidIt (HA11.out.keep hg12 (fun q e => by injection e with e; omega)).il
    have HR12 := hidIt (HR11.out.keep hg12 (fun q e => by injection e with e; omega)).il
    have HD12 := hidIt (HD11.out.keep hg12 (fun q e => by injection e with e; omega)).il
    have HO12 := hidIt (HO11.out.keep hg12 (fun q e => by injection e with e; omega)).at_
    have HX12 := hidIt (blk_keep HX11.out hg12 (fun q e => by injection e with e; omega))
    have HB12 := hidIt (below_read HB11.out hg12 (by omega))
    have HL12 := hidIt hlo.il
    have hg13 := bgrow w12 (.cells #[.slice ra raw.length rc, .slice aa N ac, .slice (some ⟨g6, 0, none⟩) (N + 1) c6, .slice la N lc, .slice none 0 0] 22)
    have HLL : Hid (LL (w12.alloc (.cells #[.slice ra raw.length rc, .slice aa N ac, .slice (some ⟨g6, 0, none⟩) (N + 1) c6, .slice la N lc, .slice none 0 0] 22)) (.slice (some ⟨w12.heap.size, 0, none⟩) 5 5) [raw, good, odd, lab, []]) :=
      ll_blk (zss := [raw, good, odd, lab, []]) (heap_alloc_new w12 _) rfl (Nat.le_refl 5) (by decide) (fun i h1 h2 => by
        match i, h1 with
        | 0, _ => exact HR12.out.below hg13
        | 1, _ => exact HA12.out.below hg13
        | 2, _ => exact HD12.out.below hg13
        | 3, _ => exact HL12.out.below hg13
        | 4, _ => exact .inl ⟨rfl, rfl⟩)
    have HSH : Hid (Sh [raw, good, odd, lab, []]) := fun i h => by
      match i, h with
      | 0, _ => exact HLR.out
      | 1, _ => show good.length ≤ 60; rw [HGL.out]; omega
      | 2, _ => show odd.length ≤ 60; rw [HDL.out]; omega
      | 3, _ => show lab.length ≤ 60; rw [hll]; omega
      | 4, _ => exact Nat.zero_le _
    have HX13 := hidIt (blk_kept2 HX12.out hg13)
    have HO13 := hidIt (HO12.out.below hg13)
    have HB13 := hidIt (HB12.out.trans (Below.mono hg13 HB12.out.size))
    clear hll hlo hg12 hg13 HA12 HR12 HD12 HO12 HX12 HB12 HL12 HA11 HR11 HD11 HO11 HX11 HB11 HS11 x0 x1 lx
    go_upto_region 11 with (fail)
    generalize (w12.alloc (.cells #[.slice ra raw.length rc, .slice aa N ac, .slice (some ⟨g6, 0, none⟩) (N + 1) c6, .slice la N lc, .slice none 0 0] 22)) = w13 at *
    generalize w12.heap.size = Z at *
    generalize [raw, good, odd, lab, []] = pss at *
    obtain ⟨ld, lcap, hle, hll⟩ := HLL.out.form
    injection hle with hle1 hle2 hle3
    subst hle1 hle3
    have HPL : Hid (5 = pss.length) := hle2
    have HLC := hidIt hll
    clear hle2 hll HLL
    go_loopw [10, 54] (fun _ i wr => ∃ k : Nat, k ≤ 5 ∧ i = .int .i64 k ∧ Hid (Below w13.heap.size w13 wr)) (fun _ i _ => 5 - (intOf i).toNat)
    case atStart => exact ⟨0, Nat.zero_le _, (by first | rfl | trivial), Below.refl _ _⟩
    case round =>
      obtain ⟨k, hk, rfl, HB⟩ := hrel
      have hkI0 : (0 : Int) ≤ (k : Int) := by omega
      by_cases hlt : k < 5
      · have hkI : (k : Int) < 5 := by omega
        have hkp : k < pss.length := by have := HPL.out; omega
        obtain ⟨gb, go, u, hgu, lu, cu, iu⟩ := HLC.out k hkp
        injection hgu with hgu
        injection hgu with hgu1 hgu2
        subst hgu1 hgu2
        have cu2 := (Below.cell (p := ⟨Z, 0 + k, none⟩) HB.out lu).trans cu
        rw [Nat.zero_add] at cu2
        have lu2 := Nat.lt_of_lt_of_le lu HB.out.size
        have HPP := hidIt (iu.below HB.out)
        have HPQ := hidIt (HSH.out k hkp)
        generalize pss[k] = p at *
        obtain ⟨pa, pc, rfl, -⟩ := HPP.out.form
        clear cu lu iu hkp
        have HXr := hidIt (blk_kept2 HX13.out HB.out)
        have HOr := hidIt (HO13.out.below HB.out)
        obtain ⟨x0, x1⟩ := And.intro (cell_two0 HXr.out) (cell_two1 HXr.out)
        have lx := lt_of_block HXr.out
        have LP : p.length ≤ 1000 := by have := HPQ.out; omega
        have CV1 : Hid (∀ wx, Ext wr wx → Calls Try.prog 13 #[.agg #[.int .i64 (N : Int), .slice ga ps.length gc], .slice pa p.length pc] wx fun e w'' => ∃ u, e = .returned u ∧ Ext wr w'' ∧ Grows wx w'' ∧ isB (validB N p) u w'') := fun wx hC => rel_call hC ((lValid_any N _ _ ps p wx (HOr.out.below hC) HOK.out HPS.out (HPP.out.below hC) LP).mono fun e w'' ⟨h1, h2⟩ => ⟨_, h1, rfl, h2⟩)
        have CV2 : Hid (∀ wx, Ext wr wx → Calls Try.prog 14 #[.agg #[.int .i64 (N : Int), .slice ga ps.length gc], .slice pa p.length pc] wx fun e w'' => ∃ u, e = .returned u ∧ Ext wr w'' ∧ Grows wx w'' ∧ isB (validB N p) u w'') := fun wx hC => rel_call hC ((rlValid_any N _ _ ps p wx (HOr.out.below hC) (HPP.out.below hC) LP).mono fun e w'' ⟨h1, h2⟩ => ⟨_, h1, rfl, h2⟩)
        have CI1 : Hid (∀ wx, Ext wr wx → Calls Try.prog 16 #[.agg #[.int .i64 (N : Int), .slice ga ps.length gc], .slice pa p.length pc] wx fun e w'' => ∃ u, e = .returned u ∧ Ext wr w'' ∧ Grows wx w'' ∧ isL (illL N ps p).length (ints (illL N ps p)) u w'') := fun wx hC => rel_call hC ((lIllegal_any N _ _ ps p wx (HOr.out.below hC) HOK.out HPS.out (HPP.out.below hC) LP).mono fun e w'' ⟨a, c, h1, h2, h3⟩ => ⟨_, h1, ⟨a, c, rfl, h2.il⟩, h3⟩)
        have CI2 : Hid (∀ wx, Ext wr wx → Calls Try.prog 17 #[.agg #[.int .i64 (N : Int), .slice ga ps.length gc], .slice pa p.length pc] wx fun e w'' => ∃ u, e = .returned u ∧ Ext wr w'' ∧ Grows wx w'' ∧ isL (illL N ps p).length (ints (illL N ps p)) u w'') := fun wx hC => rel_call hC ((rlIllegal_any N _ _ ps p wx (HOr.out.below hC) HOK.out HPS.out (HPP.out.below hC) LP).mono fun e w'' ⟨a, c, h1, h2, h3⟩ => ⟨_, h1, ⟨a, c, rfl, h2.il⟩, h3⟩)
        have CC1 : Hid (∀ wx, Ext wr wx → Calls Try.prog 18 #[.agg #[.int .i64 (N : Int), .slice ga ps.length gc], .slice pa p.length pc] wx fun e w'' => ∃ u, e = .returned u ∧ Ext wr w'' ∧ Grows wx w'' ∧ isB (validB N p && decide ((illL N ps p).length = 0)) u w'') := fun wx hC => rel_call hC ((lIsComplete_any N _ _ ps p wx (HOr.out.below hC) HOK.out HPS.out (HPP.out.below hC) LP).mono fun e w'' ⟨h1, h2⟩ => ⟨_, h1, rfl, h2⟩)
        have CC2 : Hid (∀ wx, Ext wr wx → Calls Try.prog 19 #[.agg #[.int .i64 (N : Int), .slice ga ps.length gc], .slice pa p.length pc] wx fun e w'' => ∃ u, e = .returned u ∧ Ext wr w'' ∧ Grows wx w'' ∧ isB (validB N p && decide ((illL N ps p).length = 0)) u w'') := fun wx hC => rel_call hC ((rlIsComplete_any N _ _ ps p wx (HOr.out.below hC) HOK.out HPS.out (HPP.out.below hC) LP).mono fun e w'' ⟨h1, h2⟩ => ⟨_, h1, rfl, h2⟩)
        have HIN : Hid ((ints (illL N ps p)).length ≤ 1000000) := by show _ ≤ _; rw [ints_len]; have := illL_len N ps p; omega
        have CK : Hid (∀ wx a1 c1 a2 c2, Ext wr wx → IL wx (.slice a1 (illL N ps p).length c1) (ints (illL N ps p)) → IL wx (.slice a2 (illL N ps p).length c2) (ints (illL N ps p)) → Calls Try.prog 15 #[.slice a1 (illL N ps p).length c1, .slice a2 (illL N ps p).length c2] wx fun e w'' => ∃ u, e = .returned u ∧ Ext wr w'' ∧ Grows wx w'' ∧ isB true u w'') := fun wx a1 c1 a2 c2 hC h1 h2 => rel_call hC ((kInts_any _ _ _ _ wx h1 h2 HIN.out HIN.out).mono fun e w'' ⟨h3, h4⟩ => ⟨_, h3, (by rw [decide_eq_true rfl]; rfl), h4⟩)
        clear HPP LP HIN HOr
        go_wp2_with fail
        clear cu2 lu2
        generalize (validB N p && decide ((illL N ps p).length = 0)) = CP at *
        generalize validB N p = VP at *
        generalize ints (illL N ps p) = is_ at *
        generalize (illL N ps p).length = il_ at *
        have X0 : ∀ wx, Ext wr wx → wx.cell? ⟨G, 0, none⟩ = some (.int .i64 (N : Int)) := fun wx hC => (Below.cell (p := ⟨G, 0, none⟩) hC lx).trans x0
        have X1 : ∀ wx, Ext wr wx → wx.cell? ⟨G, 1, none⟩ = some (.slice ga ps.length gc) := fun wx hC => (Below.cell (p := ⟨G, 1, none⟩) hC lx).trans x1
        haveI := Ext.nonempty wr
        refine wp_region_rel (Ext wr) Grows (relTab [(60, isB VP), (63, isB VP), (68, isL il_ is_), (71, isL il_ is_), (72, isB true), (78, isB CP), (81, isB CP)]) (by kernel_rfl) (by kernel_rfl) (by kernel_rfl) (stable_cons (isB_up _) (stable_cons (isB_up _) (stable_cons (isL_up _ _) (stable_cons (isL_up _ _) (stable_cons (isB_up _) (stable_cons (isB_up _) (stable_cons (isB_up _) (stable_nil _)))))))) (Ext.start wr) ?_
        repeat (
          refine' walkR_plain (by kernel_rfl) rfl rfl (fun wx hC hL => ?_) ?_
          rotate_left
          · (have hlx := Nat.lt_of_lt_of_le lx (Below.size hC)
             simp only [X0 wx hC, X1 wx hC, hlx, go_sem]; first | done | (go_simp; exact ⟨rfl, rfl⟩))
          simp only [Act.put, List.setIfInBounds_toArray, List.set_cons_zero, List.set_cons_succ])
        refine walkR_rel (by kernel_rfl) rfl rfl (of_decide_eq_true (by kernel_rfl)) (fun wx hC hL => ?_) (fun v hv => ?_)
        · go_simp
          exact CV1.out wx hC
        obtain ⟨_, _, rfl⟩ := hv
        simp only [Act.put, List.setIfInBounds_toArray, List.set_cons_zero, List.set_cons_succ]
        repeat (
          refine' walkR_plain (by kernel_rfl) rfl rfl (fun wx hC hL => ?_) ?_
          rotate_left
          · (have hlx := Nat.lt_of_lt_of_le lx (Below.size hC)
             simp only [X0 wx hC, X1 wx hC, hlx, go_sem]; first | done | (go_simp; exact ⟨rfl, rfl⟩))
          simp only [Act.put, List.setIfInBounds_toArray, List.set_cons_zero, List.set_cons_succ])
        refine walkR_rel (by kernel_rfl) rfl rfl (of_decide_eq_true (by kernel_rfl)) (fun wx hC hL => ?_) (fun v hv => ?_)
        · go_simp
          exact CV2.out wx hC
        obtain ⟨_, _, rfl⟩ := hv
        simp only [Act.put, List.setIfInBounds_toArray, List.set_cons_zero, List.set_cons_succ]
        repeat (
          refine' walkR_plain (by kernel_rfl) rfl rfl (fun wx hC hL => ?_) ?_
          rotate_left
          · (have hlx := Nat.lt_of_lt_of_le lx (Below.size hC)
             simp only [X0 wx hC, X1 wx hC, hlx, go_sem]; first | done | (go_simp; exact ⟨rfl, rfl⟩))
          simp only [Act.put, List.setIfInBounds_toArray, List.set_cons_zero, List.set_cons_succ])
        refine walkR_rel (by kernel_rfl) rfl rfl (of_decide_eq_true (by kernel_rfl)) (fun wx hC hL => ?_) (fun v hv => ?_)
        · go_simp
          exact CI1.out wx hC
        obtain ⟨_, _, a68, c68, rfl, -⟩ := hv
        simp only [Act.put, List.setIfInBounds_toArray, List.set_cons_zero, List.set_cons_succ]
        repeat (
          refine' walkR_plain (by kernel_rfl) rfl rfl (fun wx hC hL => ?_) ?_
          rotate_left
          · (have hlx := Nat.lt_of_lt_of_le lx (Below.size hC)
             simp only [X0 wx hC, X1 wx hC, hlx, go_sem]; first | done | (go_simp; exact ⟨rfl, rfl⟩))
          simp only [Act.put, List.setIfInBounds_toArray, List.set_cons_zero, List.set_cons_succ])
        refine walkR_rel (by kernel_rfl) rfl rfl (of_decide_eq_true (by kernel_rfl)) (fun wx hC hL => ?_) (fun v hv => ?_)
        · go_simp
          exact CI2.out wx hC
        obtain ⟨_, _, a71, c71, rfl, -⟩ := hv
        simp only [Act.put, List.setIfInBounds_toArray, List.set_cons_zero, List.set_cons_succ]
        refine walkR_rel (by kernel_rfl) rfl rfl (of_decide_eq_true (by kernel_rfl)) (fun wx hC hL => ?_) (fun v hv => ?_)
        · have h68 : isL il_ is_ (.slice a68 il_ c68) wx := hL.get 68 (by simp [more]) (by kernel_rfl) rfl rfl
          have h71 : isL il_ is_ (.slice a71 il_ c71) wx := hL.get 71 (by simp [more]) (by kernel_rfl) rfl rfl
          have i68 := hidIt h68.il
          have i71 := hidIt h71.il
          clear h68 h71
          go_simp
          exact CK.out wx a68 c68 a71 c71 hC i68.out i71.out
        obtain ⟨_, _, rfl⟩ := hv
        simp only [Act.put, List.setIfInBounds_toArray, List.set_cons_zero, List.set_cons_succ]
        repeat (
          refine' walkR_plain (by kernel_rfl) rfl rfl (fun wx hC hL => ?_) ?_
          rotate_left
          · (have hlx := Nat.lt_of_lt_of_le lx (Below.size hC)
             simp only [X0 wx hC, X1 wx hC, hlx, go_sem]; first | done | (go_simp; exact ⟨rfl, rfl⟩))
          simp only [Act.put, List.setIfInBounds_toArray, List.set_cons_zero, List.set_cons_succ])
        refine walkR_rel (by kernel_rfl) rfl rfl (of_decide_eq_true (by kernel_rfl)) (fun wx hC hL => ?_) (fun v hv => ?_)
        · go_simp
          exact CC1.out wx hC
        obtain ⟨_, _, rfl⟩ := hv
        simp only [Act.put, List.setIfInBounds_toArray, List.set_cons_zero, List.set_cons_succ]
        repeat (
          refine' walkR_plain (by kernel_rfl) rfl rfl (fun wx hC hL => ?_) ?_
          rotate_left
          · (have hlx := Nat.lt_of_lt_of_le lx (Below.size hC)
             simp only [X0 wx hC, X1 wx hC, hlx, go_sem]; first | done | (go_simp; exact ⟨rfl, rfl⟩))
          simp only [Act.put, List.setIfInBounds_toArray, List.set_cons_zero, List.set_cons_succ])
        refine walkR_rel (by kernel_rfl) rfl rfl (of_decide_eq_true (by kernel_rfl)) (fun wx hC hL => ?_) (fun v hv => ?_)
        · go_simp
          exact CC2.out wx hC
        obtain ⟨_, _, rfl⟩ := hv
        simp only [Act.put, List.setIfInBounds_toArray, List.set_cons_zero, List.set_cons_succ]
        repeat (
          refine' walkR_plain (by kernel_rfl) rfl rfl (fun wx hC hL => ?_) ?_
          rotate_left
          · (have hlx := Nat.lt_of_lt_of_le lx (Below.size hC)
             simp only [X0 wx hC, X1 wx hC, hlx, go_sem]; first | done | (go_simp; exact ⟨rfl, rfl⟩))
          simp only [Act.put, List.setIfInBounds_toArray, List.set_cons_zero, List.set_cons_succ])
        refine fun w20 hC20 hK => ?_
        have hb20 : Below wr.heap.size wr w20 := hC20
        have HBZ := hidIt (HB.out.trans (Below.mono hb20 HB.out.size))
        clear hb20 hC20 hK X0 X1 x0 x1 lx
        go_wp2_with fail
        go_roundw
        case rel => exact ⟨k + 1, by omega, by go_num, HBZ.out⟩
        case measure => simp [intOf]; omega
      · obtain rfl : k = 5 := by omega
        go_wp2_with fail
        refine (awake11_any _).mono ?_
        rintro e w8 ⟨rfl, hb⟩
        have HBF := hidIt ((HB13.out.trans (Below.mono HB.out HB13.out.size)).trans (Below.mono hb (Nat.le_trans HB13.out.size HB.out.size)))
        clear hb
        go_wp2_with fail
        go_ret
        exact ⟨rfl, HBF.out⟩
end Go.Proofs.Ytbahfcefplgigaa
