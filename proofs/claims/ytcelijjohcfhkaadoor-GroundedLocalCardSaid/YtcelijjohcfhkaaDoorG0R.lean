/- Reverse: the program's and the reference's; the boxes of a graph that is being made. -/
import Derived.Test.YtcelijjohcfhkaaDoorG0K
namespace Go.Proofs.YtcelijjohcfhkaaDoor
set_option linter.unusedVariables false
set_option linter.unusedSimpArgs false
open Go Go.RowKit Go.Sort

/-- The result's box P, the box Q of the graph that is being made, its attacks. -/
structure GR (w : World) (P Q : Nat) (n : Int) (wr : World) (v : Value) (ps : List (Int × Int)) : Prop where
  lo : w.heap.size ≤ P
  pq : P < Q
  res : wr.heap[P]? = some (.cells #[.int .i64 0, .slice none 0 0] 24 (0, 0))
  box : wr.heap[Q]? = some (.cells #[.int .i64 n, v] 24 (0, 0))
  own : OwnP wr (Q + 1) v ps
  bel : Below w.heap.size w wr
theorem GR.go {w wr w' : World} {P Q : Nat} {n : Int} {v : Value} {ps : List (Int × Int)} (h : GR w P Q n wr v ps) (hb : Below wr.heap.size wr w') : GR w P Q n w' v ps :=
  ⟨h.lo, h.pq, blk_kept2 h.res hb, blk_kept2 h.box hb, h.own.go hb, h.bel.trans (Below.mono hb h.bel.size)⟩
theorem GR.lt {w wr : World} {P Q : Nat} {n : Int} {v : Value} {ps : List (Int × Int)} (h : GR w P Q n wr v ps) : Q + 1 ≤ wr.heap.size := lt_of_block h.box
theorem GR.app {w wr w8 : World} {P Q : Nat} {n : Int} {v v8 : Value} {ps : List (Int × Int)} {x : Int × Int} (h : GR w P Q n wr v ps) (hown : w8.ownsRow (Q + 1) 43 2 v8 (ps.length + 1) (ps.flatMap encP ++ [.int .i64 x.1, .int .i64 x.2])) (hg : wr.grownBy w8 v.ownBlock) :
    GR w P Q n (w8.setCell ⟨Q, 1, none⟩ v8) v8 (ps ++ [x]) := by
  have hOB : ∀ g, v.ownBlock = some g → Q + 1 ≤ g := fun g e => (owns_blk h.own g e).1
  have hlo := h.lo
  have hpq := h.pq
  have hR := (hg.block P (lt_of_block h.res) (fun e => by have := hOB _ e.symm; omega)).trans h.res
  have hQ := (hg.block Q (lt_of_block h.box) (fun e => by have := hOB _ e.symm; omega)).trans h.box
  have hO : OwnP w8 (Q + 1) v8 (ps ++ [x]) := OwnP.snoc hown
  refine ⟨h.lo, h.pq, ?_, ?_, owns_kept hO fun g e => ?_, below_set5 (below_app5 h.bel hg (fun g e => by have := hOB g e; omega) h.bel.size) (by omega)⟩
  · rw [Below.heap_setCell w8 ⟨Q, 1, none⟩ _ P (by show P ≠ Q; omega)]
    exact hR
  · have := set_cells (i := 1) (u := v8) hQ
    simpa using this
  · have hge := (owns_blk hO g e).1
    exact Below.heap_setCell w8 ⟨Q, 1, none⟩ _ g (by show g ≠ Q; omega)

theorem GR.keep {w wr w8 : World} {P Q : Nat} {n : Int} {v v8 : Value} {ps : List (Int × Int)} (h : GR w P Q n wr v ps) (hg : wr.grownBy w8 v.ownBlock) {g : Nat} (hgq : g < Q) : (w8.setCell ⟨Q, 1, none⟩ v8).heap[g]? = wr.heap[g]? := by
  have hOB : ∀ g, v.ownBlock = some g → Q + 1 ≤ g := fun g e => (owns_blk h.own g e).1
  rw [Below.heap_setCell w8 ⟨Q, 1, none⟩ _ g (by show g ≠ Q; omega)]
  exact hg.block g (by have := h.lt; omega) (fun e => by have := hOB _ e.symm; omega)

def swapP (p : Int × Int) : Int × Int := (p.2, p.1)
/-- Every attack turned round, ascending. -/
def revL (N : Nat) (ps : List (Int × Int)) : List (Int × Int) := (List.range N).flatMap fun (i : Nat) => (inL ps (i : Int)).map fun k => ((i : Int), k)

theorem geP_lt (a b : Int × Int) : geP a b = false ↔ ltOf cmpP a b = true := by
  rw [lt_iff]
  unfold geP
  simp only [decide_eq_false_iff_not]
  omega
theorem GOk.lt {n : Int} {ps : List (Int × Int)} (h : GOk n ps) : ps.Pairwise fun a b => ltOf cmpP a b = true := h.up.imp fun {a b} k => (geP_lt a b).1 k
theorem nodup_of_lt {ps : List (Int × Int)} (h : ps.Pairwise fun a b => ltOf cmpP a b = true) : ps.Nodup := h.imp (fun {a b} hlt e => by
  subst e
  rw [swo.irrefl] at hlt
  cases hlt)
theorem mem_inL {ps : List (Int × Int)} {i k : Int} : k ∈ inL ps i ↔ (k, i) ∈ ps := by
  unfold inL
  rw [List.mem_map]
  constructor
  · rintro ⟨p, hp, rfl⟩
    rw [List.mem_filter] at hp
    obtain ⟨h1, h2⟩ := hp
    have : p.2 = i := by simpa using h2
    rw [← this]
    exact h1
  · intro h
    exact ⟨(k, i), List.mem_filter.2 ⟨h, by simp⟩, rfl⟩
theorem inL_sorted {ps : List (Int × Int)} (h : ps.Pairwise fun a b => ltOf cmpP a b = true) (i : Int) : (inL ps i).Pairwise fun a b => a < b := by
  unfold inL
  rw [List.pairwise_map]
  have h2 : (ps.filter fun p => p.2 == i).Pairwise fun a b => ltOf cmpP a b = true := h.sublist List.filter_sublist
  refine List.Pairwise.imp_of_mem (fun {a b} ha hb hlt => ?_) h2
  have h3 : a.2 = i := by simpa using (List.mem_filter.1 ha).2
  have h4 : b.2 = i := by simpa using (List.mem_filter.1 hb).2
  rw [lt_iff] at hlt
  omega
theorem revL_lt {ps : List (Int × Int)} (h : ps.Pairwise fun a b => ltOf cmpP a b = true) : ∀ N, (revL N ps).Pairwise fun a b => ltOf cmpP a b = true
  | 0 => by simp [revL]
  | N + 1 => by
    have ih := revL_lt h N
    unfold revL at *
    rw [List.range_succ, List.flatMap_append, List.pairwise_append]
    refine ⟨ih, ?_, fun a ha b hb => ?_⟩
    · simp only [List.flatMap_cons, List.flatMap_nil, List.append_nil]
      rw [List.pairwise_map]
      exact (inL_sorted h (N : Int)).imp fun {a b} hab => by rw [lt_iff]; exact .inr ⟨rfl, hab⟩
    · rw [List.mem_flatMap] at ha
      obtain ⟨c, hc, ha⟩ := ha
      obtain ⟨k, -, rfl⟩ := List.mem_map.1 ha
      simp only [List.flatMap_cons, List.flatMap_nil, List.append_nil] at hb
      obtain ⟨k2, -, rfl⟩ := List.mem_map.1 hb
      have := List.mem_range.1 hc
      rw [lt_iff]
      left
      show (c : Int) < (N : Int)
      omega
theorem mem_revL {N : Nat} {ps : List (Int × Int)} {x : Int × Int} : x ∈ revL N ps ↔ (0 ≤ x.1 ∧ x.1 < (N : Int)) ∧ (x.2, x.1) ∈ ps := by
  unfold revL
  rw [List.mem_flatMap]
  constructor
  · rintro ⟨c, hc, hx⟩
    obtain ⟨k, hk, rfl⟩ := List.mem_map.1 hx
    have := List.mem_range.1 hc
    exact ⟨⟨by show (0 : Int) ≤ (c : Int); omega, by show (c : Int) < N; omega⟩, mem_inL.1 hk⟩
  · rintro ⟨⟨h1, h2⟩, h3⟩
    obtain ⟨a, b⟩ := x
    simp only at h1 h2 h3
    obtain ⟨c, rfl⟩ : ∃ c : Nat, a = (c : Int) := ⟨a.toNat, by omega⟩
    exact ⟨c, List.mem_range.2 (by omega), List.mem_map.2 ⟨b, mem_inL.2 h3, rfl⟩⟩
/-- Sorting the turned attacks gives them in this order. -/
theorem srt_swap {N : Nat} {ps : List (Int × Int)} (h : GOk (N : Int) ps) : srt (ps.map swapP) = revL N ps := by
  have n1 : (srt (ps.map swapP)).Nodup := by
    have hp : (srt (ps.map swapP)).Perm (ps.map swapP) := List.mergeSort_perm _ _
    rw [hp.nodup_iff]
    refine List.Pairwise.map swapP (fun a b hab e => hab ?_) (nodup_of_lt h.lt)
    obtain ⟨a1, a2⟩ := a
    obtain ⟨b1, b2⟩ := b
    unfold swapP at e
    simp only [Prod.mk.injEq] at e ⊢
    exact ⟨e.2, e.1⟩
  have hlt := revL_lt h.lt N
  have n2 := nodup_of_lt hlt
  refine List.Perm.eq_of_pairwise (le := fun a b => (!ltOf cmpP b a) = true) (fun a b _ _ h1 h2 => by
    simp only [Bool.not_eq_true'] at h1 h2
    exact lt_total a b h2 h1) (srt_pair _) (hlt.imp fun {a b} hl => ?_) ((List.perm_ext_iff_of_nodup n1 n2).2 fun x => ?_)
  · cases k : ltOf cmpP b a
    · rfl
    · have := swo.trans a b a hl k
      rw [swo.irrefl] at this
      cases this
  · rw [mem_revL, show x ∈ srt (ps.map swapP) ↔ x ∈ ps.map swapP from (List.mergeSort_perm _ _).mem_iff, List.mem_map]
    constructor
    · rintro ⟨p, hp, rfl⟩
      exact ⟨(h.ix p hp).2, hp⟩
    · rintro ⟨-, h2⟩
      exact ⟨_, h2, rfl⟩

/-- Reverse's graph. -/
def rvL (n : Int) (xs : List (Int × Int)) : List (Int × Int) := revL (vN n xs).toNat (vL n xs)

set_option maxRecDepth 100000 in
set_option maxHeartbeats 4000000 in
theorem gReverse_any (n : Int) (v : Value) (xs : List (Int × Int)) (w : World) (h : PairsAt w v xs) (hl : xs.length ≤ 1000) :
    Calls Tryd.prog 21 #[.agg #[.int .i64 n, v]] w fun e w' => ∃ v', e = .returned (.agg #[.int .i64 (vN n xs), v']) ∧ PairsAt w' v' (rvL n xs) ∧ Below w.heap.size w w' := by
  obtain ⟨⟨hX, hZ⟩, hB⟩ := two_boxes w (.cells #[.int .i64 n, v] 24) (.cells #[.int .i64 0, .slice none 0 0] 24)
  have h1 := h.below hB
  have HV := hidIt (h.valid n)
  obtain ⟨a, c, rfl, -⟩ := h.form
  have HX := hidIt hX
  have HZ := hidIt hZ
  have HB := hidIt hB
  have H1 := hidIt h1
  have HL := hidIt hl
  have HOK := hidIt (v_ok n xs)
  have HRV : Hid (rvL n xs = revL (vN n xs).toNat (vL n xs)) := (rfl : _ = _)
  have hsz : (w.alloc (.cells #[.int .i64 n, .slice a xs.length c] 24)).heap.size = w.heap.size + 1 := by simp
  clear hX hZ hB h1 h hl
  go_enter Tryd.func21, Tryd.ntmps21
  go_upto_region 1 with (fail)
  generalize ((w.alloc (.cells #[.int .i64 n, .slice a xs.length c] 24)).alloc (.cells #[.int .i64 0, .slice none 0 0] 24)) = w1 at *
  clear hsz
  obtain ⟨x0, x1⟩ := And.intro (cell_two0 HX.out) (cell_two1 HX.out)
  have lx := lt_of_block HX.out
  go_wp2_with fail
  refine (gvalid_any n _ xs _ H1.out (by have := HL.out; omega)).mono ?_
  rintro e w2 ⟨rfl, hb⟩
  have HX2 := hidIt (blk_kept2 HX.out hb)
  have HZ2 := hidIt (blk_kept2 HZ.out hb)
  have HLN : Hid ((vL n xs).length ≤ 1000) := Nat.le_trans (vL_len n xs) HL.out
  have HB2 := hidIt (HB.out.trans (Below.mono hb HB.out.size))
  clear hb x0 x1 lx HX HZ H1 HL HB
  generalize hps : vL n xs = ps at *
  have HPS := hidIt hps
  clear hps
  generalize hm : vN n xs = m at *
  have HMM := hidIt hm
  clear hm
  generalize vV n xs _ = v' at *
  obtain ⟨a', c', rfl, hpc⟩ := HV.out.pc
  have HPC := hidIt hpc
  have HB3 := hidIt (below_set5 (i := 1) (u := .slice a' ps.length c') (below_set5 (i := 0) (u := .int .i64 m) HB2.out (Nat.le_refl _)) (Nat.le_refl _))
  have HX3 := hidIt (box_set2 (x := .int .i64 m) (y := .slice a' ps.length c') HX2.out)
  have HZ3 : Hid (((w2.setCell ⟨w.heap.size, 0, none⟩ (.int .i64 m)).setCell ⟨w.heap.size, 1, none⟩ (.slice a' ps.length c')).heap[w.heap.size + 1]? = some (.cells #[.int .i64 0, .slice none 0 0] 24 (0, 0))) := by
    show _ = _
    rw [Below.heap_setCell _ _ _ _ (by show w.heap.size + 1 ≠ w.heap.size; omega), Below.heap_setCell _ _ _ _ (by show w.heap.size + 1 ≠ w.heap.size; omega)]
    exact HZ2.out
  obtain ⟨x0, x1⟩ := And.intro (cell_two0 HX2.out) (cell_two1 HX2.out)
  have lx := lt_of_block HX2.out
  have f0 := free_any HX2.out 0
  have f1 := free_any HX2.out 1
  clear hpc
  go_upto_region 2 with (fail)
  generalize ((w2.setCell ⟨w.heap.size, 0, none⟩ (.int .i64 m)).setCell ⟨w.heap.size, 1, none⟩ (.slice a' ps.length c')) = w3 at *
  clear x0 x1 lx f0 f1 HX2 HB2 HZ2
  obtain ⟨x0, x1⟩ := And.intro (cell_two0 HX3.out) (cell_two1 HX3.out)
  have lx := lt_of_block HX3.out
  have hg3 := bgrow w3 (.cells #[.int .i64 m, .slice none 0 0] 24)
  have HX4 := hidIt (blk_kept2 HX3.out hg3)
  have HGR : Hid (GR w (w.heap.size + 1) w3.heap.size m (w3.alloc (.cells #[.int .i64 m, .slice none 0 0] 24)) (.slice none 0 0) []) :=
    ⟨Nat.le_succ _, lt_of_block HZ3.out, blk_kept2 HZ3.out hg3, heap_alloc_new w3 _, OwnP.nil _ _, HB3.out.trans (Below.mono hg3 HB3.out.size)⟩
  clear hg3
  go_upto_region 3 with (fail)
  generalize (w3.alloc (.cells #[.int .i64 m, .slice none 0 0] 24)) = w4 at *
  clear x0 x1 lx HX3 HZ3 HB3
  obtain ⟨x0, x1⟩ := And.intro (cell_two0 HX4.out) (cell_two1 HX4.out)
  have lx := lt_of_block HX4.out
  generalize w3.heap.size = Q at *
  obtain ⟨M, hM⟩ : ∃ M, M = ps.length := ⟨_, rfl⟩
  have HM := hidIt hM
  rw [← hM] at HLN x1 HX4 ⊢
  clear hM
  have hMn := HLN.out
  go_wp2_with fail
  go_loopw [5, 14] (fun _ vk wr => ∃ (k : Nat) (qs : List (Int × Int)) (za : Option Addr) (zc : Nat), vk = .int .i64 k ∧ k ≤ M ∧ Hid (qs = (ps.take k).map swapP) ∧ Hid (GR w (w.heap.size + 1) Q m wr (.slice za qs.length zc) qs)) (fun _ vk _ => M - (intOf vk).toNat)
  case atStart => exact ⟨0, [], none, 0, (by first | rfl | trivial), Nat.zero_le _, (rfl : _ = _), HGR.out⟩
  case round =>
    clear HGR x0 x1 lx HX4
    obtain ⟨k, qs, za, zc, rfl, hk, HQ, HG⟩ := hrel
    have hkI0 : (0 : Int) ≤ (k : Int) := by omega
    by_cases hlt : k < M
    · have hkI : (k : Int) < (M : Int) := by omega
      have HLT : Hid (k < ps.length) := by show k < _; rw [← HM.out]; exact hlt
      obtain ⟨b, off, rfl, lb, hcs⟩ := (HPC.out.go HG.out.bel).at_ HLT.out
      obtain ⟨p0, p1⟩ := hcs k HLT.out
      obtain ⟨x, hx⟩ : ∃ x, x = ps[k]'HLT.out := ⟨_, rfl⟩
      rw [← hx] at p0 p1
      have HE : Hid (qs ++ [swapP x] = (ps.take (k + 1)).map swapP) := by show _ = _; rw [List.take_succ_eq_append_getElem HLT.out, List.map_append, HQ.out, hx]; rfl
      clear hx hcs
      obtain ⟨gx, sx⟩ := x
      simp only at p0 p1
      have hql : qs.length ≤ 1000 := by
        have h1 := congrArg List.length HQ.out
        rw [List.length_map, List.length_take] at h1
        omega
      have hg2 := bgrow wr (.cells #[.int .i64 gx, .int .i64 sx] 43)
      have HP5 := hidIt (heap_alloc_new wr (.cells #[.int .i64 gx, .int .i64 sx] 43))
      have HG5 := hidIt (HG.out.go hg2)
      clear hg2 HG
      go_upto_region 6 with (fail)
      generalize wr.alloc (.cells #[.int .i64 gx, .int .i64 sx] 43) = w5 at *
      clear p0 p1 lb
      generalize wr.heap.size = R at *
      obtain ⟨y0, y1⟩ := And.intro (cell_two0 HP5.out) (cell_two1 HP5.out)
      have ly := lt_of_block HP5.out
      obtain ⟨z0, z1⟩ := And.intro (cell_two0 HG5.out.box) (cell_two1 HG5.out.box)
      have lz := lt_of_block HG5.out.box
      have HG7 := hidIt (HG5.out.go (bgrow w5 (.cells #[.int .i64 sx, .int .i64 gx] 43)))
      have hsz7 := HG7.out.lt
      obtain ⟨L, hL⟩ : ∃ L, L = qs.length := ⟨_, rfl⟩
      have HLL := hidIt hL
      rw [← hL] at hql z1 HG7
      clear hL
      have HO7 : Hid (World.ownsRow (w5.alloc (.cells #[.int .i64 sx, .int .i64 gx] 43)) (Q + 1) 43 2 (.slice za L zc) L (qs.flatMap encP)) := by
        have h := HG7.out.own
        unfold OwnP at h
        rw [← HLL.out] at h
        exact h
      go_wp2_with (at_builtin; refine Hid.out ?_)
      refine hidIt ?_
      refine wpList_append_kb rfl _ _ elemP rfl (Q + 1) (.slice za L zc) L _ rfl HO7.out _ 1 rfl #[.int .i64 sx, .int .i64 gx] 43 (heap_alloc_new _ _) rfl (one_of (by rfl)) (by omega) hsz7 ?_
      intro g8 c8 w8 hown8 hg8 hbl8
      have HL8 : Hid ((qs ++ [swapP (gx, sx)]).length = L + 1) := by show _ = _; rw [List.length_append, HLL.out]; rfl
      have HG8 : Hid (GR w (w.heap.size + 1) Q m (w8.setCell ⟨Q, 1, none⟩ (.slice (some ⟨g8, 0, none⟩) (L + 1) c8)) (.slice (some ⟨g8, 0, none⟩) (L + 1) c8) (qs ++ [swapP (gx, sx)])) :=
        GR.app (x := swapP (gx, sx)) HG7.out (by rw [← HLL.out]; exact hown8) hg8
      have hOB : ∀ g, (Value.slice za L zc).ownBlock = some g → Q + 1 ≤ g := fun g e => (owns_blk HO7.out g e).1
      have hQ8 := (hg8.block Q (lt_of_block HG7.out.box) (fun e => by have := hOB _ e.symm; omega)).trans HG7.out.box
      have k0 := cell_two0 hQ8
      have k1 := cell_two1 hQ8
      have lk := lt_of_block hQ8
      have f8 := free_any hQ8 1
      clear hown8 hg8 hbl8 hOB HO7 HG7 HG5 hsz7 hQ8 z0 z1 lz y0 y1 ly
      go_wp2_with fail
      go_roundw
      case rel => exact ⟨k + 1, qs ++ [swapP (gx, sx)], some ⟨g8, 0, none⟩, c8, by go_num, by omega, HE.out, (by rw [HL8.out]; exact HG8.out)⟩
      case measure => simp [intOf]; omega
    · have hkI : ¬ (k : Int) < (M : Int) := by omega
      have HE : Hid (qs = ps.map swapP) := by
        have := HQ.out
        rwa [List.take_of_length_le (by rw [← HM.out]; omega)] at this
      obtain ⟨z0, z1⟩ := And.intro (cell_two0 HG.out.box) (cell_two1 HG.out.box)
      have lz := lt_of_block HG.out.box
      obtain ⟨N, rfl⟩ : ∃ N : Nat, m = (N : Int) := ⟨m.toNat, by have := HOK.out.n0; omega⟩
      have HSR : Hid (srt qs = revL N ps) := by show _ = _; rw [HE.out]; exact srt_swap HOK.out
      have hql : qs.length ≤ 1000 := by
        have h1 := congrArg List.length HQ.out
        rw [List.length_map, List.length_take] at h1
        omega
      rcases HG.out.own.own with ⟨hv, hq0⟩ | ⟨b, cap, hv, hc1, hc2, hb1, hb2, hH⟩
      · injection hv with e1 e2 e3
        subst e1 e3
        have HR0 : Hid (revL N ps = []) := by show _ = _; rw [← HSR.out, hq0]; exact List.eq_nil_of_length_eq_zero (by rw [srt_len]; rfl)
        rw [hq0] at z1 HG
        clear e2
        go_wp2_with fail
        refine (sort_nil _).mono ?_
        rintro e w9 ⟨rfl, rfl⟩
        have r0 := cell_two0 HG.out.res
        have r1 := cell_two1 HG.out.res
        have lr := lt_of_block HG.out.res
        have g0 := free_any HG.out.res 0
        have g1 := free_any HG.out.res 1
        have HBF : Hid (∀ A B : Value, Below w.heap.size w ((w9.setCell ⟨w.heap.size + 1, 0, none⟩ A).setCell ⟨w.heap.size + 1, 1, none⟩ B)) := fun A B => below_set5 (below_set5 HG.out.bel (Nat.le_succ _)) (Nat.le_succ _)
        go_wp2_with fail
        refine bodyPost_ret (v := .agg #[.int .i64 (N : Int), .slice none 0 0]) (by simp [results, Tryd.results21, go_sem, r0, r1, lr]) rfl ?_
        rw [HMM.out, HRV.out, Int.toNat_natCast, HR0.out]
        exact ⟨_, rfl, .inl ⟨rfl, rfl⟩, HBF.out _ _⟩
      · injection hv with e1 e2 e3
        subst e1 e3
        have HH := hidIt hH
        have HB1 := hidIt hb1
        have HB2 := hidIt hb2
        clear e2 hH hb1 hb2
        go_wp2_with fail
        refine (sort_clean (Q + 1) b 0 zc qs _ HH.out HB1.out HB2.out (by omega)).mono ?_
        rintro e w9 ⟨rfl, hH9, hbl9, hb9⟩
        have HOP : Hid (OwnPairs w9 (Q + 1) (.slice (some ⟨b, 0, none⟩) qs.length zc) (srt qs)) := .inr ⟨b, zc, by rw [srt_len], by rw [srt_len]; exact hc1, hc2, HB1.out, hb9, hH9⟩
        rw [HSR.out] at HOP
        have hpq := HG.out.pq
        have hQl := HG.out.lt
        have hbox9 := (hbl9.block Q (by omega)).trans HG.out.box
        have hres9 := (hbl9.block (w.heap.size + 1) (by omega)).trans HG.out.res
        have HBel9 := hidIt (HG.out.bel.trans (Below.mono hbl9 (by have := HG.out.lo; omega)))
        clear z0 z1 lz hH9 hbl9 hb9
        obtain ⟨z0, z1⟩ := And.intro (cell_two0 hbox9) (cell_two1 hbox9)
        have lz := lt_of_block hbox9
        have r0 := cell_two0 hres9
        have r1 := cell_two1 hres9
        have lr := lt_of_block hres9
        have g0 := free_any hres9 0
        have g1 := free_any hres9 1
        have HBF : Hid (∀ A B : Value, Below w.heap.size w ((w9.setCell ⟨w.heap.size + 1, 0, none⟩ A).setCell ⟨w.heap.size + 1, 1, none⟩ B)) := fun A B => below_set5 (below_set5 HBel9.out (Nat.le_succ _)) (Nat.le_succ _)
        have HPF : Hid (∀ A B : Value, PairsAt ((w9.setCell ⟨w.heap.size + 1, 0, none⟩ A).setCell ⟨w.heap.size + 1, 1, none⟩ B) (.slice (some ⟨b, 0, none⟩) qs.length zc) (revL N ps)) := fun A B => by
          refine (HOP.out.kept (row := some (w.heap.size + 1)) (only_setCell (only_setCell (only_refl w9 (some (w.heap.size + 1))) (.inl rfl) _) (.inl rfl) _) (fun g e b2 cap2 hv2 => ?_)).lits
          injection e with e
          injection hv2 with hv2
          injection hv2 with hv2
          injection hv2 with hv2
          have := HB1.out
          omega
        clear hbox9 hres9
        go_wp2_with fail
        refine bodyPost_ret (v := .agg #[.int .i64 (N : Int), .slice (some ⟨b, 0, none⟩) qs.length zc]) (by simp [results, Tryd.results21, go_sem, r0, r1, lr]) rfl ?_
        rw [HMM.out, HRV.out, Int.toNat_natCast]
        exact ⟨_, rfl, HPF.out _ _, HBF.out _ _⟩
end Go.Proofs.YtcelijjohcfhkaaDoor
