/- attack.Graph, for every number and list of attacks. -/
import Derived.Test.YtplkkkkcmfgkfaaGreatG9App
namespace Go.Proofs.YtplkkkkcmfgkfaaGreat
set_option linter.unusedVariables false
set_option linter.unusedSimpArgs false
open Go Go.RowKit Go.Sort

theorem flatL_nil : flatL [] = [] := by
  apply List.eq_nil_of_length_eq_zero
  rw [flatL_len]
  rfl

theorem flatMap_get : ∀ (xs : List (Int × Int)) (j : Nat), j < xs.length * 2 → (xs.flatMap encP)[j]? = some ((encP xs[j / 2]!)[j % 2]!)
  | [], j, h => by simp at h
  | x :: r, j, h => by
    rw [List.flatMap_cons]
    match j with
    | 0 => rfl
    | 1 => rfl
    | j + 2 =>
      have ih := flatMap_get r j (by simp at h; omega)
      rw [show (j + 2) / 2 = j / 2 + 1 by omega, show (j + 2) % 2 = j % 2 by omega]
      exact ih

theorem flatMap_len (xs : List (Int × Int)) : (xs.flatMap encP).length = xs.length * 2 := by
  induction xs with
  | nil => rfl
  | cons x r ih => rw [List.flatMap_cons, List.length_append, ih, encP_len, List.length_cons]; omega

theorem flatL_eq (xs : List (Int × Int)) : flatL xs = xs.flatMap encP := by
  apply List.ext_getElem?
  intro j
  by_cases h : j < xs.length * 2
  · rw [flatL_get xs j h, flatMap_get xs j h]
  · rw [List.getElem?_eq_none (by rw [flatL_len]; omega), List.getElem?_eq_none (by rw [flatMap_len]; omega)]


/-- An attack. -/
structure At4 where
  f : Int
  t : Int
  s : Int
  k : Int
/-- A list of attacks, wherever it lies. -/
def AtsAt (w : World) (v : Value) (xs : List At4) : Prop :=
  (v = .slice none 0 0 ∧ xs = []) ∨ ∃ (b off cap : Nat), v = .slice (some ⟨b, off, none⟩) xs.length cap ∧ xs.length ≤ cap ∧ cap ≤ maxLen ∧ b < w.heap.size ∧
    ∀ i (h : i < xs.length), w.cell? ⟨b, off + i * 4, none⟩ = some (.int .i64 xs[i].f) ∧ w.cell? ⟨b, off + i * 4 + 1, none⟩ = some (.int .i64 xs[i].t) ∧ w.cell? ⟨b, off + i * 4 + 2, none⟩ = some (.int .i64 xs[i].s) ∧ w.cell? ⟨b, off + i * 4 + 3, none⟩ = some (.int .i64 xs[i].k)
theorem AtsAt.below {w w' : World} {v : Value} {xs : List At4} (h : AtsAt w v xs) (hb : Below w.heap.size w w') : AtsAt w' v xs := by
  rcases h with h | ⟨b, off, cap, h1, h2, h3, h4, h5⟩
  · exact .inl h
  · refine .inr ⟨b, off, cap, h1, h2, h3, Nat.lt_of_lt_of_le h4 hb.size, fun i hi => ?_⟩
    obtain ⟨c0, c1, c2, c3⟩ := h5 i hi
    exact ⟨(Below.cell (p := ⟨b, off + i * 4, none⟩) hb h4).trans c0, (Below.cell (p := ⟨b, off + i * 4 + 1, none⟩) hb h4).trans c1, (Below.cell (p := ⟨b, off + i * 4 + 2, none⟩) hb h4).trans c2, (Below.cell (p := ⟨b, off + i * 4 + 3, none⟩) hb h4).trans c3⟩
/-- Are both ends below n? -/
def ixB (i n : Int) : Bool := decide (0 ≤ i) && decide (i < n)
def inN (n : Int) (a : At4) : Bool := ixB a.f n && ixB a.t n
def prs (xs : List At4) : List (Int × Int) := xs.map fun a => (a.f, a.t)
def gOk (n : Int) (xs : List At4) : Bool := decide (0 ≤ n ∧ n ≤ 40) && xs.all (inN n)
theorem isIndex_any (i n : Int) (w : World) : Calls Tryz.prog 13 #[.int .i64 i, .int .i64 n] w fun e w' => e = .returned (.bool (ixB i n)) ∧ w' = w := by
  unfold ixB
  by_cases h1 : 0 ≤ i <;> by_cases h2 : i < n
  all_goals (
    go_enter Tryz.func13, Tryz.ntmps13
    go_wp2_with fail
    go_ret
    exact ⟨ret_bool (by simp [h1, h2]), rfl⟩)

/-- A list of pairs that the call owns. -/
def OwnP (w : World) (B : Nat) (v : Value) (ps : List (Int × Int)) : Prop := w.ownsRow B 46 2 v ps.length (ps.flatMap encP)
theorem elemP : ElemOf 31 46 2 16 := elem_of Tryz.underlying31 infoL rfl (by decide) (by decide)
theorem OwnP.nil (w : World) (B : Nat) : OwnP w B (.slice none 0 0) [] := World.ownsRow_nil w B _ _
theorem OwnP.go {w w' : World} {B : Nat} {v : Value} {ps : List (Int × Int)} (h : OwnP w B v ps) (hb : Below w.heap.size w w') : OwnP w' B v ps := owns_kept h fun g e => hb.block g (owns_blk h g e).2
theorem OwnP.own {w : World} {B : Nat} {v : Value} {ps : List (Int × Int)} (h : OwnP w B v ps) : OwnPairs w B v ps := by
  by_cases hn : v = .slice none 0 0
  · obtain ⟨_, h | ⟨g, cap, cur, h1, _⟩⟩ := h
    · exact .inl ⟨h.1, List.eq_nil_of_length_eq_zero h.2⟩
    · rw [h1] at hn; cases hn
  · refine holds_of_owns ?_ hn
    rw [flatL_eq]
    exact h

set_option maxRecDepth 100000 in
set_option maxHeartbeats 4000000 in
theorem graph_any (n : Int) (v : Value) (xs : List At4) (hn : -9223372036854775808 ≤ n ∧ n ≤ 9223372036854775807) (hl : xs.length ≤ 1000) (w : World) (h : AtsAt w v xs) :
    Calls Tryz.prog 7 #[.int .i64 n, v] w fun e w' => ∃ gv : Value, e = .returned (.tuple #[.agg #[.int .i64 (if gOk n xs = true then n else 0), gv], .int .i64 (if gOk n xs = true then 0 else 1)]) ∧ PairsAt w' gv (if gOk n xs = true then nrm (prs xs) else []) ∧ Below w.heap.size w w' := by
  have HV := hidIt h
  have HB0 := hidIt (bgrow w (.cells #[.int .i64 0, .slice none 0 0] 33))
  have HZ0 := hidIt (heap_alloc_new w (.cells #[.int .i64 0, .slice none 0 0] 33))
  obtain ⟨hn1, hn2⟩ := hn
  obtain ⟨K, hK⟩ : ∃ K, K = gOk n xs := ⟨_, rfl⟩
  have HK := hidIt hK
  rw [← hK]
  clear hK h
  have hw1s : (w.alloc (.cells #[.int .i64 0, .slice none 0 0] 33)).heap.size = w.heap.size + 1 := by simp
  by_cases hr : 0 ≤ n ∧ n ≤ 40
  rotate_left
  · have EK : Hid (K = false) := by show _ = _; rw [HK.out]; unfold gOk; rw [decide_eq_false hr]; rfl
    rw [EK.out]
    obtain ⟨z0, z1⟩ := And.intro (cell_two0 HZ0.out) (cell_two1 HZ0.out)
    have lz := lt_of_block HZ0.out
    have f0 := free_any HZ0.out 0
    have f1 := free_any HZ0.out 1
    by_cases hneg : n < 0
    · clear hr
      go_enter Tryz.func7, Tryz.ntmps7
      go_wp2_with fail
      refine bodyPost_ret (v := .tuple #[.agg #[.int .i64 0, .slice none 0 0], .int .i64 1]) (by simp [results, Tryz.results7, go_sem, z0, z1, lz]) rfl ?_
      exact ⟨.slice none 0 0, rfl, .inl ⟨rfl, rfl⟩, by repeat (first | exact HB0.out | refine below_set5 ?_ (Nat.le_refl _))⟩
    · have hbig : 40 < n := by omega
      clear hr
      go_enter Tryz.func7, Tryz.ntmps7
      go_wp2_with fail
      refine bodyPost_ret (v := .tuple #[.agg #[.int .i64 0, .slice none 0 0], .int .i64 1]) (by simp [results, Tryz.results7, go_sem, z0, z1, lz]) rfl ?_
      exact ⟨.slice none 0 0, rfl, .inl ⟨rfl, rfl⟩, by repeat (first | exact HB0.out | refine below_set5 ?_ (Nat.le_refl _))⟩
  obtain ⟨hr1, hr2⟩ := hr
  have hr3 : ¬ n < 0 := by omega
  have hr4 : ¬ 40 < n := by omega
  have HKA : Hid (K = xs.all (inN n)) := by show _ = _; rw [HK.out]; unfold gOk; rw [decide_eq_true ⟨hr1, hr2⟩]; rfl
  clear HK
  obtain ⟨a, c, rfl, hcs⟩ : ∃ (a : Option Addr) (c : Nat), v = .slice a xs.length c ∧ ∀ i (h : i < xs.length), ∃ b off, a = some ⟨b, off, none⟩ ∧ b < w.heap.size ∧ w.cell? ⟨b, off + i * 4, none⟩ = some (.int .i64 xs[i].f) ∧ w.cell? ⟨b, off + i * 4 + 1, none⟩ = some (.int .i64 xs[i].t) ∧ w.cell? ⟨b, off + i * 4 + 2, none⟩ = some (.int .i64 xs[i].s) ∧ w.cell? ⟨b, off + i * 4 + 3, none⟩ = some (.int .i64 xs[i].k) := by
    rcases HV.out with ⟨rfl, rfl⟩ | ⟨b, off, cap, rfl, -, -, h4, h5⟩
    · exact ⟨none, 0, rfl, fun i hi => by simp at hi⟩
    · exact ⟨_, cap, rfl, fun i hi => ⟨b, off, rfl, h4, h5 i hi⟩⟩
  have HCS := hidIt hcs
  clear hcs HV
  have hlI : (xs.length : Int) ≤ 1000 := by omega
  go_enter Tryz.func7, Tryz.ntmps7
  go_wp2_with fail
  generalize (w.alloc (.cells #[.int .i64 0, .slice none 0 0] 33)) = w1 at *
  go_loopw [6, 8, 18] (fun v6 _ v18 wr => ∃ (k : Nat) (pa : Option Addr) (pc : Nat), v6 = .slice pa k pc ∧ v18 = .int .i64 (k : Int) ∧ k ≤ xs.length ∧ Hid ((xs.take k).all (inN n) = true) ∧ Hid (OwnP wr (w.heap.size + 1) (.slice pa k pc) (prs (xs.take k))) ∧ Hid (wr.heap[w.heap.size]? = some (.cells #[.int .i64 0, .slice none 0 0] 33 (0, 0))) ∧ Hid (Below w.heap.size w wr)) (fun _ _ v18 _ => xs.length - (intOf v18).toNat)
  case atStart => exact ⟨0, none, 0, rfl, rfl, Nat.zero_le _, (rfl : _ = _), OwnP.nil _ _, HZ0.out, HB0.out⟩
  case round =>
    clear HZ0 HB0
    obtain ⟨k, pa, pc, rfl, rfl, hk, HAL, HOW, HZ, HB⟩ := hrel
    by_cases hlt : k < xs.length
    · have hkI : (k : Int) < (xs.length : Int) := by omega
      have hk0 : (0 : Int) ≤ (k : Int) := by omega
      obtain ⟨b, off, rfl, hbl, d0, d1, d2, d3⟩ := HCS.out k hlt
      have c0 := (Below.cell (p := ⟨b, off + k * 4, none⟩) HB.out hbl).trans d0
      have c1 := (Below.cell (p := ⟨b, off + k * 4 + 1, none⟩) HB.out hbl).trans d1
      have c2 := (Below.cell (p := ⟨b, off + k * 4 + 2, none⟩) HB.out hbl).trans d2
      have c3 := (Below.cell (p := ⟨b, off + k * 4 + 3, none⟩) HB.out hbl).trans d3
      have hbl' : b < wr.heap.size := Nat.lt_of_lt_of_le hbl HB.out.size
      have HTK : Hid (xs.take (k + 1) = xs.take k ++ [xs[k]]) := List.take_succ_eq_append_getElem hlt
      have HMEM : Hid (xs[k] ∈ xs) := List.getElem_mem hlt
      clear d0 d1 d2 d3
      generalize xs[k] = x at *
      obtain ⟨xf, xt, xsb, xk⟩ := x
      simp only at c0 c1 c2 c3
      have hgr := bgrow wr (.cells #[.int .i64 xf, .int .i64 xt, .int .i64 xsb, .int .i64 xk] 28)
      have HX := hidIt (heap_alloc_new wr (.cells #[.int .i64 xf, .int .i64 xt, .int .i64 xsb, .int .i64 xk] 28))
      have HO2 := hidIt (HOW.out.go hgr)
      have HZ2 := hidIt (blk_kept2 HZ.out hgr)
      have HB2 := hidIt (HB.out.trans (Below.mono hgr HB.out.size))
      clear hgr HOW HZ HB
      go_upto_region 7 with (fail)
      generalize (wr.alloc (.cells #[.int .i64 xf, .int .i64 xt, .int .i64 xsb, .int .i64 xk] 28)) = w2 at *
      obtain ⟨P, hP⟩ : ∃ P, P = wr.heap.size := ⟨_, rfl⟩
      rw [← hP] at HX ⊢
      clear hP c0 c1 c2 c3
      have x0 : w2.cell? ⟨P, 0, none⟩ = some (.int .i64 xf) := by simp [World.cell?, HX.out]
      have x1 : w2.cell? ⟨P, 1, none⟩ = some (.int .i64 xt) := by simp [World.cell?, HX.out]
      have lx := lt_of_block HX.out
      have HBAD : Hid (inN n ⟨xf, xt, xsb, xk⟩ = false → K = false) := fun h => by
        rw [HKA.out, List.all_eq_false]
        exact ⟨_, HMEM.out, by rw [h]; decide⟩
      go_wp2_with fail
      refine (isIndex_any xf n _).mono ?_
      rintro e w3 ⟨rfl, rfl⟩
      cases hf : ixB xf n
      · have EK : Hid (K = false) := HBAD.out (by unfold inN; rw [show ixB xf n = false from hf]; rfl)
        obtain rfl : K = false := EK.out
        have z0 := cell_two0 HZ2.out
        have z1 := cell_two1 HZ2.out
        have lz := lt_of_block HZ2.out
        have f0 := free_any HZ2.out 0
        have f1 := free_any HZ2.out 1
        go_wp2_with fail
        refine bodyPost_ret (v := .tuple #[.agg #[.int .i64 0, .slice none 0 0], .int .i64 1]) (by simp [results, Tryz.results7, go_sem, z0, z1, lz]) rfl ?_
        exact ⟨.slice none 0 0, rfl, .inl ⟨rfl, rfl⟩, by repeat (first | exact HB2.out | refine below_set5 ?_ (Nat.le_refl _))⟩
      go_wp2_with fail
      refine (isIndex_any xt n _).mono ?_
      rintro e w3 ⟨rfl, rfl⟩
      cases ht : ixB xt n
      · have EK : Hid (K = false) := HBAD.out (by unfold inN; rw [show ixB xt n = false from ht, Bool.and_false])
        obtain rfl : K = false := EK.out
        have z0 := cell_two0 HZ2.out
        have z1 := cell_two1 HZ2.out
        have lz := lt_of_block HZ2.out
        have f0 := free_any HZ2.out 0
        have f1 := free_any HZ2.out 1
        go_wp2_with fail
        refine bodyPost_ret (v := .tuple #[.agg #[.int .i64 0, .slice none 0 0], .int .i64 1]) (by simp [results, Tryz.results7, go_sem, z0, z1, lz]) rfl ?_
        exact ⟨.slice none 0 0, rfl, .inl ⟨rfl, rfl⟩, by repeat (first | exact HB2.out | refine below_set5 ?_ (Nat.le_refl _))⟩
      have HIN : Hid (inN n ⟨xf, xt, xsb, xk⟩ = true) := by show _ = _; unfold inN; rw [show ixB xf n = true from hf, show ixB xt n = true from ht]; rfl
      have hpl : (prs (xs.take k)).length = k := by unfold prs; rw [List.length_map, List.length_take]; omega
      have hgr3 := bgrow w3 (.cells #[.int .i64 xf, .int .i64 xt] 46)
      have HO3 : Hid (World.ownsRow (w3.alloc (.cells #[.int .i64 xf, .int .i64 xt] 46)) (w.heap.size + 1) 46 2 (.slice pa k pc) k ((prs (xs.take k)).flatMap encP)) := by
        have := HO2.out.go hgr3
        unfold OwnP at this
        rw [hpl] at this
        exact this
      have HZ3 := hidIt (blk_kept2 HZ2.out hgr3)
      have HB3 := hidIt (HB2.out.trans (Below.mono hgr3 HB2.out.size))
      have hsz3 : w.heap.size + 1 ≤ (w3.alloc (.cells #[.int .i64 xf, .int .i64 xt] 46)).heap.size := lt_of_block HZ3.out
      clear hgr3 hpl hf ht
      go_wp2_with (at_builtin; refine Hid.out ?_)
      refine hidIt ?_
      refine wpList_append_kb rfl _ _ elemP rfl (w.heap.size + 1) (.slice pa k pc) k _ rfl HO3.out _ 1 rfl #[.int .i64 xf, .int .i64 xt] 46 (heap_alloc_new _ _) rfl (one_of (by rfl)) (by omega) hsz3 ?_
      intro g8 c8 w8 hown8 hg8 hbl8
      have hOB : ∀ g, (Value.slice pa k pc).ownBlock = some g → w.heap.size + 1 ≤ g := fun g e => (owns_blk HO3.out g e).1
      have HZ8 := hidIt ((hg8.block w.heap.size (lt_of_block HZ3.out) (fun e => by have := hOB _ e.symm; omega)).trans HZ3.out)
      have HB8 := hidIt (below_app5 HB3.out hg8 (fun g e => by have := hOB g e; omega) (by omega))
      have HO8 : Hid (OwnP w8 (w.heap.size + 1) (.slice (some ⟨g8, 0, none⟩) (k + 1) c8) (prs (xs.take (k + 1)))) := by
        have e1 : prs (xs.take (k + 1)) = prs (xs.take k) ++ [(xf, xt)] := by rw [HTK.out]; unfold prs; rw [List.map_append]; rfl
        have e2 : (prs (xs.take k)).length = k := by unfold prs; rw [List.length_map, List.length_take]; omega
        show World.ownsRow _ _ _ _ _ _ _
        rw [e1, List.length_append, List.flatMap_append, e2]
        exact hown8
      clear hown8 hg8 hbl8 hOB HO3 HZ3 HB3 hsz3 HO2 HZ2 HB2 x0 x1 lx
      go_wp2_with fail
      go_roundw
      case rel => exact ⟨k + 1, some ⟨g8, 0, none⟩, c8, rfl, by go_num, hlt, (by show _ = _; rw [HTK.out, List.all_append, HAL.out, Bool.true_and]; show (inN n _ && true) = true; rw [HIN.out]; rfl), HO8.out, HZ8.out, HB8.out⟩
      case measure => simp [intOf]; omega
    · obtain rfl : k = xs.length := by omega
      have hkI : ¬ (xs.length : Int) < (xs.length : Int) := by omega
      rw [List.take_length] at HAL HOW
      have EK : Hid (K = true) := by show _ = _; rw [HKA.out]; exact HAL.out
      obtain rfl : K = true := EK.out
      have hpl : (prs xs).length = xs.length := by unfold prs; rw [List.length_map]
      have hB1 : w.heap.size + 1 ≤ wr.heap.size := lt_of_block HZ.out
      rcases HOW.out.own with ⟨hv, hps⟩ | ⟨g, cap, hv, hq1, hq2, hq3, hq4, hq5⟩
      · injection hv with hv1 hv2 hv3
        subst hv1 hv3
        have HPS : Hid (nrm [] = []) := by show _ = _; simp [nrm, srt, cpt, Lib.compactUpTo]
        try rw [hv2]
        have z0 := cell_two0 HZ.out
        have z1 := cell_two1 HZ.out
        have lz := lt_of_block HZ.out
        have f0 := free_any HZ.out 0
        have f1 := free_any HZ.out 1
        go_wp2_with fail
        refine (sort_nil _).mono ?_
        rintro e w3 ⟨rfl, rfl⟩
        go_wp2_with fail
        refine (compact_nil _).mono ?_
        rintro e w4 ⟨rfl, rfl⟩
        go_wp2_with fail
        refine bodyPost_ret (v := .tuple #[.agg #[.int .i64 n, .slice none 0 0], .int .i64 0]) (by simp [results, Tryz.results7, go_sem, z0, z1, lz]) rfl ?_
        exact ⟨.slice none 0 0, rfl, .inl ⟨rfl, HPS.out⟩, by repeat (first | exact HB.out | refine below_set5 ?_ (Nat.le_refl _))⟩
      · injection hv with hv1 hv2 hv3
        subst hv1 hv3
        have HQ5 := hidIt hq5
        have hq1' : xs.length ≤ pc := by omega
        have HSRT := hidIt (fun wx hH hB => sort_clean (w.heap.size + 1) g 0 pc (prs xs) wx hH hq3 hB (by omega))
        rw [hpl] at HSRT
        clear hv2 hq5
        go_wp2_with fail
        refine (HSRT.out _ HQ5.out hq4).mono ?_
        rintro e w3 ⟨rfl, s1, s2, s3⟩
        have hss : (srt (prs xs)).toArray.size = xs.length := by rw [List.size_toArray, srt_len, hpl]
        have hcp := compact_clean (w.heap.size + 1) g 0 pc (srt (prs xs)).toArray w3 s1 (by rw [hss]; omega) (by rw [hss]; exact hq1') hq3 s3
        rw [hss] at hcp
        have HCP := hidIt hcp
        have HB3 : Hid (Below w.heap.size w w3) := HB.out.trans ((Below.mono s2 (by omega)))
        have HZ3 : Hid (w3.heap[w.heap.size]? = some (.cells #[.int .i64 0, .slice none 0 0] 33 (0, 0))) := (s2.block w.heap.size (by omega)).trans HZ.out
        clear hcp s1 s2 hss HSRT
        go_wp2_with fail
        refine HCP.out.mono ?_
        rintro e w4 ⟨rfl, p1, p2, p3⟩
        have HB4 : Hid (Below w.heap.size w w4) := HB3.out.trans (Below.mono p2 (by omega))
        have hZ4 := (p2.block w.heap.size (by omega)).trans HZ3.out
        have hnl : (cpt (srt (prs xs)).toArray).length ≤ pc := by
          have := nrm_len (prs xs)
          unfold nrm at this
          omega
        have HP4 : Hid (PairsAt (w4.setCell ⟨w.heap.size, 0, none⟩ (.int .i64 n) |>.setCell ⟨w.heap.size, 1, none⟩ (.slice (some ⟨g, 0, none⟩) (cpt (srt (prs xs)).toArray).length pc)) (.slice (some ⟨g, 0, none⟩) (cpt (srt (prs xs)).toArray).length pc) (nrm (prs xs))) := by
          have hO : OwnPairs w4 (w.heap.size + 1) (.slice (some ⟨g, 0, none⟩) (cpt (srt (prs xs)).toArray).length pc) (nrm (prs xs)) := .inr ⟨g, pc, rfl, hnl, hq2, hq3, p3, p1⟩
          refine (hO.kept (row := some w.heap.size) (only_setCell (only_setCell (only_refl w4 (some w.heap.size)) (.inl rfl) _) (.inl rfl) _) (fun g' e b cap hv => ?_)).lits
          injection e with e
          injection hv with hv
          injection hv with hv
          injection hv with hv
          omega
        have z0 := cell_two0 hZ4
        have z1 := cell_two1 hZ4
        have lz := lt_of_block hZ4
        have f0 := free_any hZ4 0
        have f1 := free_any hZ4 1
        clear p1 p2 hZ4
        generalize (cpt (srt (prs xs)).toArray).length = m at *
        go_wp2_with fail
        refine bodyPost_ret (v := .tuple #[.agg #[.int .i64 n, .slice (some ⟨g, 0, none⟩) m pc], .int .i64 0]) (by simp [results, Tryz.results7, go_sem, z0, z1, lz]) rfl ?_
        exact ⟨.slice (some ⟨g, 0, none⟩) m pc, rfl, HP4.out, by repeat (first | exact HB4.out | refine below_set5 ?_ (Nat.le_refl _))⟩
end Go.Proofs.YtplkkkkcmfgkfaaGreat
