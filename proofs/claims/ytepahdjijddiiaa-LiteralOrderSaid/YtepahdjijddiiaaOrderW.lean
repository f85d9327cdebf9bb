/- The law LiteralOrder: the call answers true for every three literals and every list of numbers. -/
import Derived.Test.YtepahdjijddiiaaTextsW
namespace Go.Proofs.Ytepahdjijddiiaa
open Go.RowKit Go.Sort

theorem cmpI_comp (a b : Lt) (h : (a.name.toList == b.name.toList) = false) : cmpI (comp a) b = cmpI a b := by
  unfold cmpI comp
  simp only [h]
  rfl

theorem cmpI_le_trans {a b c : Lt} (h : cmpI a b ≤ 0) (k : cmpI b c ≤ 0) : cmpI a c ≤ 0 := by
  rcases cmpI_bd a b with h1 | h1 | h1
  · rcases cmpI_bd b c with k1 | k1 | k1
    · have := cmpI_trans (x := a) (y := b) (z := c) (by omega) (by omega); omega
    · rw [← cmpI_zero k1]; omega
    · omega
  · rw [cmpI_zero h1]; exact k
  · omega

theorem cmpI_eqb (a b : Lt) : decide (a = b) = (cmpI a b == 0) := by
  rw [Bool.eq_iff_iff]
  simp only [decide_eq_true_eq, beq_iff_eq]
  exact ⟨fun h => by rw [h]; exact cmpI_self _, cmpI_zero⟩

theorem complement_ys {w0 : World} {yb : Nat} {g : Bool} {s : ByteArray} (a : Bool) (t : ByteArray) (w : World) (h : YS w0 yb g s w) :
    Calls Try.prog 21 #[.agg #[.bool a, .string t]] w fun e w' => e = .returned (.agg #[.bool (!a), .string t]) ∧ YS w0 yb g s w' :=
  (complement_any ⟨a, t⟩ w).mono fun _ _ ⟨he, hb⟩ => ⟨he, h.go hb⟩
theorem rComplement_ys {w0 : World} {yb : Nat} {g : Bool} {s : ByteArray} (a : Bool) (t : ByteArray) (w : World) (h : YS w0 yb g s w) :
    Calls Try.prog 22 #[.agg #[.bool a, .string t]] w fun e w' => e = .returned (.agg #[.bool (!a), .string t]) ∧ YS w0 yb g s w' :=
  (rComplement_any ⟨a, t⟩ w).mono fun _ _ ⟨he, hb⟩ => ⟨he, h.go hb⟩

/-- Three literals that came in, boxed, and a reader. -/
structure OS (w0 : World) (zs : List Int) (g1 : Bool) (s1 : ByteArray) (g2 : Bool) (s2 : ByteArray) (g3 : Bool) (s3 : ByteArray) (w : World) : Prop where
  k1 : w.heap[w0.heap.size]? = some (.cells #[.bool g1, .string s1] 23 (0, 0))
  k2 : w.heap[w0.heap.size + 1]? = some (.cells #[.bool g2, .string s2] 23 (0, 0))
  k3 : w.heap[w0.heap.size + 1 + 1]? = some (.cells #[.bool g3, .string s3] 23 (0, 0))
  src : ∃ q, SrcAt w w0.heap.size (w0.heap.size + 1 + 1 + 1) zs q
  bel : Below w0.heap.size w0 w
section
variable {w0 w w' : World} {zs : List Int} {g1 : Bool} {s1 : ByteArray} {g2 : Bool} {s2 : ByteArray} {g3 : Bool} {s3 : ByteArray}
theorem OS.alloc (h : OS w0 zs g1 s1 g2 s2 g3 s3 w) (o : Obj) : OS w0 zs g1 s1 g2 s2 g3 s3 (w.alloc o) := by
  obtain ⟨q, hq⟩ := h.src
  have hb : Below w.heap.size w (w.alloc o) := (Below.refl _ _).alloc (Nat.le_refl _) o
  exact ⟨block_kept h.k1 hb, block_kept h.k2 hb, block_kept h.k3 hb, ⟨q, hq.alloc o⟩, h.bel.trans (hb.mono h.bel.size)⟩
theorem OS.drew (h : OS w0 zs g1 s1 g2 s2 g3 s3 w) : OS w0 zs g1 s1 g2 s2 g3 s3 w.drew := by
  obtain ⟨q, hq⟩ := h.src
  exact ⟨h.k1, h.k2, h.k3, ⟨q, hq.drewN 1⟩, h.bel.drew⟩
theorem OS.read (h : OS w0 zs g1 s1 g2 s2 g3 s3 w) {q : Nat} (hs : SrcAt w' w0.heap.size (w0.heap.size + 1 + 1 + 1) zs q) (hg : w.grownBy w' (some (w0.heap.size + 1 + 1 + 1))) : OS w0 zs g1 s1 g2 s2 g3 s3 w' := by
  obtain ⟨q0, hq⟩ := h.src
  exact ⟨by rw [hg.block _ (lt_of_block h.k1) (fun e => by injection e with e; omega)]; exact h.k1, by rw [hg.block _ (lt_of_block h.k2) (fun e => by injection e with e; omega)]; exact h.k2,
    by rw [hg.block _ (lt_of_block h.k3) (fun e => by injection e with e; omega)]; exact h.k3, ⟨q, hs⟩, below_only h.bel hg hq.base hq.lt⟩
theorem OS.all (h : OS w0 zs g1 s1 g2 s2 g3 s3 w') : w'.cell? ⟨w0.heap.size, 0, none⟩ = some (.bool g1) ∧ w'.cell? ⟨w0.heap.size, 1, none⟩ = some (.string s1) ∧ w'.cell? ⟨w0.heap.size + 1, 0, none⟩ = some (.bool g2) ∧ w'.cell? ⟨w0.heap.size + 1, 1, none⟩ = some (.string s2) ∧ w'.cell? ⟨w0.heap.size + 1 + 1, 0, none⟩ = some (.bool g3) ∧ w'.cell? ⟨w0.heap.size + 1 + 1, 1, none⟩ = some (.string s3) ∧ Hid (OS w0 zs g1 s1 g2 s2 g3 s3 w') :=
  ⟨cell_two0 h.k1, cell_two1 h.k1, cell_two0 h.k2, cell_two1 h.k2, cell_two0 h.k3, cell_two1 h.k3, h⟩
theorem slit_os (n : Int) (hn : 1 ≤ n) (hn' : n ≤ 26) (w : World) (h : OS w0 zs g1 s1 g2 s2 g3 s3 w) :
    Calls Try.prog 11 #[.pointer (some ⟨w0.heap.size + 1 + 1 + 1, 0, none⟩), .int .i64 n] w fun e w' => ∃ (ga : Bool) (sa : ByteArray), e = .returned (.agg #[.bool ga, .string sa]) ∧ OS w0 zs g1 s1 g2 s2 g3 s3 w' := by
  obtain ⟨q, hq⟩ := h.src
  refine (slit_any n hn hn' _ _ zs q w hq).mono ?_
  rintro e w' ⟨ga, m, k', rfl, hm, hs, hg⟩
  exact ⟨ga, letter m, rfl, h.read hs hg⟩
theorem odd_os (w : World) (h : OS w0 zs g1 s1 g2 s2 g3 s3 w) :
    Calls Try.prog 10 #[.pointer (some ⟨w0.heap.size + 1 + 1 + 1, 0, none⟩)] w fun e w' => ∃ (ga : Bool) (sa : ByteArray), e = .returned (.agg #[.bool ga, .string sa]) ∧ OS w0 zs g1 s1 g2 s2 g3 s3 w' := by
  obtain ⟨q, hq⟩ := h.src
  refine (odd_any _ _ zs q w hq).mono ?_
  rintro e w' ⟨ga, sa, k', rfl, hz, hs, hg⟩
  exact ⟨ga, sa, rfl, h.read hs hg⟩
end

/-- Two literals in blocks of their own, from a world on. -/
structure AB (w0 : World) (ya : Nat) (ga : Bool) (sa : ByteArray) (yb : Nat) (gb : Bool) (sb : ByteArray) (w : World) : Prop where
  ka : w.heap[ya]? = some (.cells #[.bool ga, .string sa] 23 (0, 0))
  kb : w.heap[yb]? = some (.cells #[.bool gb, .string sb] 23 (0, 0))
  bel : Below w0.heap.size w0 w
section
variable {w0 w w' : World} {ya : Nat} {ga : Bool} {sa : ByteArray} {yb : Nat} {gb : Bool} {sb : ByteArray}
theorem AB.go (h : AB w0 ya ga sa yb gb sb w) (hb : Below w.heap.size w w') : AB w0 ya ga sa yb gb sb w' := ⟨block_kept h.ka hb, block_kept h.kb hb, h.bel.trans (hb.mono h.bel.size)⟩
theorem AB.alloc (h : AB w0 ya ga sa yb gb sb w) (o : Obj) : AB w0 ya ga sa yb gb sb (w.alloc o) := h.go ((Below.refl _ _).alloc (Nat.le_refl _) o)
theorem AB.drew (h : AB w0 ya ga sa yb gb sb w) : AB w0 ya ga sa yb gb sb w.drew := ⟨h.ka, h.kb, h.bel.drew⟩
theorem AB.cells (h : AB w0 ya ga sa yb gb sb w) : w.cell? ⟨ya, 0, none⟩ = some (.bool ga) ∧ w.cell? ⟨ya, 1, none⟩ = some (.string sa) ∧ w.cell? ⟨yb, 0, none⟩ = some (.bool gb) ∧ w.cell? ⟨yb, 1, none⟩ = some (.string sb) :=
  ⟨cell_two0 h.ka, cell_two1 h.ka, cell_two0 h.kb, cell_two1 h.kb⟩
theorem AB.all (h : AB w0 ya ga sa yb gb sb w) : w.cell? ⟨ya, 0, none⟩ = some (.bool ga) ∧ w.cell? ⟨ya, 1, none⟩ = some (.string sa) ∧ w.cell? ⟨yb, 0, none⟩ = some (.bool gb) ∧ w.cell? ⟨yb, 1, none⟩ = some (.string sb) ∧ Hid (AB w0 ya ga sa yb gb sb w) :=
  ⟨cell_two0 h.ka, cell_two1 h.ka, cell_two0 h.kb, cell_two1 h.kb, h⟩
theorem complement_ab (a : Bool) (t : ByteArray) (w : World) (h : AB w0 ya ga sa yb gb sb w) :
    Calls Try.prog 21 #[.agg #[.bool a, .string t]] w fun e w' => e = .returned (.agg #[.bool (!a), .string t]) ∧ AB w0 ya ga sa yb gb sb w' :=
  (complement_any ⟨a, t⟩ w).mono fun _ _ ⟨he, hb⟩ => ⟨he, h.go hb⟩
end

theorem ab_of {w0 w : World} {ya : Nat} {ga : Bool} {sa : ByteArray} {yb : Nat} {gb : Bool} {sb : ByteArray} {f : FuncId} {args : Array Value} {v : Value}
    (hc : Calls Try.prog f args w fun e w' => e = .returned v ∧ Below w.heap.size w w') (h : AB w0 ya ga sa yb gb sb w) : Calls Try.prog f args w fun e w' => e = .returned v ∧ AB w0 ya ga sa yb gb sb w' :=
  hc.mono fun _ _ ⟨he, hb⟩ => ⟨he, h.go hb⟩

theorem compare_below (x y : Lt) (w : World) : Calls Try.prog 23 #[.agg #[.bool x.neg, .string x.name], .agg #[.bool y.neg, .string y.name]] w fun e w' => e = .returned (.int .i64 (cmpI x y)) ∧ Below w.heap.size w w' :=
  (compare_any x y w).mono fun _ _ ⟨he, os, hw⟩ => ⟨he, by rw [hw]; exact below_grow w os⟩
theorem rCompare_below (x y : Lt) (w : World) : Calls Try.prog 24 #[.agg #[.bool x.neg, .string x.name], .agg #[.bool y.neg, .string y.name]] w fun e w' => e = .returned (.int .i64 (cmpI x y)) ∧ Below w.heap.size w w' :=
  (rCompare_any x y w).mono fun _ _ ⟨he, os, hw⟩ => ⟨he, by rw [hw]; exact below_grow w os⟩

/-- All that the comparisons of two literals answer, as one number. -/
theorem cmp_facts (g : Bool) (s : ByteArray) (g' : Bool) (s' : ByteArray) : ∃ n : Int, Hid (n = cmpI ⟨g, s⟩ ⟨g', s'⟩) ∧ -1 ≤ n ∧ n ≤ 1 ∧
    (∀ w, Calls Try.prog 23 #[.agg #[.bool g, .string s], .agg #[.bool g', .string s']] w fun e w' => e = .returned (.int .i64 n) ∧ Below w.heap.size w w') ∧
    (∀ w, Calls Try.prog 24 #[.agg #[.bool g, .string s], .agg #[.bool g', .string s']] w fun e w' => e = .returned (.int .i64 n) ∧ Below w.heap.size w w') ∧
    (∀ w, Calls Try.prog 23 #[.agg #[.bool g', .string s'], .agg #[.bool g, .string s]] w fun e w' => e = .returned (.int .i64 (-n)) ∧ Below w.heap.size w w') ∧
    (∀ w, (Op.equalIn 10000 23 (.agg #[.bool g, .string s]) (.agg #[.bool g', .string s'])).run Try.prog w = .ok (n == 0) w) ∧
    ((s.toList == s'.toList) = false → ∀ w, Calls Try.prog 23 #[.agg #[.bool (!g), .string s], .agg #[.bool g', .string s']] w fun e w' => e = .returned (.int .i64 n) ∧ Below w.heap.size w w') := by
  have hb := cmpI_bd ⟨g, s⟩ ⟨g', s'⟩
  refine ⟨cmpI ⟨g, s⟩ ⟨g', s'⟩, hidIt rfl, by omega, by omega, fun w => compare_below ⟨g, s⟩ ⟨g', s'⟩ w, fun w => rCompare_below ⟨g, s⟩ ⟨g', s'⟩ w, fun w => ?_, fun w => ?_, fun h w => ?_⟩
  · have := compare_below ⟨g', s'⟩ ⟨g, s⟩ w
    rw [cmpI_swap ⟨g, s⟩ ⟨g', s'⟩] at this
    exact this
  · rw [eqFieldsL, cmpI_eqb]
  · have := compare_below (comp ⟨g, s⟩) ⟨g', s'⟩ w
    rw [cmpI_comp ⟨g, s⟩ ⟨g', s'⟩ h] at this
    exact this

set_option maxRecDepth 100000 in
set_option maxHeartbeats 4000000 in
theorem order_walk (g1 : Bool) (s1 : ByteArray) (g2 : Bool) (s2 : ByteArray) (g3 : Bool) (s3 : ByteArray) (l : Value) (zs : List Int) (w : World) (hl : IntsAt w w.heap.size l zs) :
    Calls Try.prog 4 #[.agg #[.bool g1, .string s1], .agg #[.bool g2, .string s2], .agg #[.bool g3, .string s3], l] w fun e w' => e = .returned (.bool true) ∧ Below w.heap.size w w' := by
  have HL := hidIt (((hl.kept (World.grownBy_alloc w (.cells #[.bool g1, .string s1] 23) none) (fun g e => by cases e)).kept (World.grownBy_alloc _ (.cells #[.bool g2, .string s2] 23) none) (fun g e => by cases e)).kept (World.grownBy_alloc _ (.cells #[.bool g3, .string s3] 23) none) (fun g e => by cases e))
  clear hl
  go_enter Try.func4, Try.ntmps4
  go_wp2_with fail
  refine (new_any l zs w.heap.size _ HL.out (by simp; omega)).mono ?_
  rintro e w1 ⟨zs', rfl, hs1, o, hw1⟩
  have hO : OS w zs' g1 s1 g2 s2 g3 s3 w1 := by
    have hb : Below (((w.alloc (.cells #[.bool g1, .string s1] 23)).alloc (.cells #[.bool g2, .string s2] 23)).alloc (.cells #[.bool g3, .string s3] 23)).heap.size (((w.alloc (.cells #[.bool g1, .string s1] 23)).alloc (.cells #[.bool g2, .string s2] 23)).alloc (.cells #[.bool g3, .string s3] 23)) w1 := by
      rw [hw1]; exact (Below.refl _ _).alloc (Nat.le_refl _) o
    obtain ⟨k1, k2, k3, _, hB⟩ := three_laid hb
    have e1 : (((w.alloc (.cells #[.bool g1, .string s1] 23)).alloc (.cells #[.bool g2, .string s2] 23)).alloc (.cells #[.bool g3, .string s3] 23)).heap.size = w.heap.size + 1 + 1 + 1 := by simp
    rw [e1] at hs1
    exact ⟨k1, k2, k3, ⟨0, hs1⟩, hB⟩
  clear hs1 hw1 HL
  have tok1 : True := trivial
  go_wp2_with fail
  go_region_held3 (fun w' => w'.cell? ⟨w.heap.size, 0, none⟩ = some (.bool g1) ∧ w'.cell? ⟨w.heap.size, 1, none⟩ = some (.string s1) ∧ w'.cell? ⟨w.heap.size + 1, 0, none⟩ = some (.bool g2) ∧ w'.cell? ⟨w.heap.size + 1, 1, none⟩ = some (.string s2) ∧ w'.cell? ⟨w.heap.size + 1 + 1, 0, none⟩ = some (.bool g3) ∧ w'.cell? ⟨w.heap.size + 1 + 1, 1, none⟩ = some (.string s3) ∧ Hid (OS w zs' g1 s1 g2 s2 g3 s3 w'))
    (first
      | exact hO.drew.all
      | exact ho.all
      | (go_split_ands; exact (OS.alloc (Hid.out (by assumption)) _).all))
    (first
      | (go_at_call 10; refine (odd_os (w0 := w) (zs := zs') (g1 := g1) (s1 := s1) (g2 := g2) (s2 := s2) (g3 := g3) (s3 := s3) _ ?_).mono ?_; (go_split_ands; exact Hid.out (by assumption)); rintro e wn ⟨gn, sn, rfl, ho⟩)
      | (go_at_call 11; have _t := tok1; refine (slit_os (w0 := w) (zs := zs') (g1 := g1) (s1 := s1) (g2 := g2) (s2 := s2) (g3 := g3) (s3 := s3) 3 (by omega) (by omega) _ ?_).mono ?_; (go_split_ands; exact Hid.out (by assumption)); rintro e wa ⟨ga, sa, rfl, ho⟩; clear tok1)
      | (go_at_call 11; refine (slit_os (w0 := w) (zs := zs') (g1 := g1) (s1 := s1) (g2 := g2) (s2 := s2) (g3 := g3) (s3 := s3) 3 (by omega) (by omega) _ ?_).mono ?_; (go_split_ands; exact Hid.out (by assumption)); rintro e wb ⟨gb, sb, rfl, ho⟩))
  have HB3 := hidIt ((ho.alloc (.cells #[.bool g1, .string s1, .bool g2, .string s2, .bool g3, .string s3, .bool ga, .string sa, .bool gb, .string sb, .bool gn, .string sn, .bool (!g1), .string s1] 23)).bel)
  have HR := hidIt (row_facts [⟨g1, s1⟩, ⟨g2, s2⟩, ⟨g3, s3⟩, ⟨ga, sa⟩, ⟨gb, sb⟩, ⟨gn, sn⟩, ⟨!g1, s1⟩] (heap_alloc_new wn (.cells #[.bool g1, .string s1, .bool g2, .string s2, .bool g3, .string s3, .bool ga, .string sa, .bool gb, .string sb, .bool gn, .string sn, .bool (!g1), .string s1] 23)) rfl)
  have hlen : Hid (([⟨g1, s1⟩, ⟨g2, s2⟩, ⟨g3, s3⟩, ⟨ga, sa⟩, ⟨gb, sb⟩, ⟨gn, sn⟩, ⟨!g1, s1⟩] : List Lt).length = 7) := rfl
  have hlb : Hid (wn.heap.size < (wn.alloc (.cells #[.bool g1, .string s1, .bool g2, .string s2, .bool g3, .string s3, .bool ga, .string sa, .bool gb, .string sb, .bool gn, .string sn, .bool (!g1), .string s1] 23)).heap.size) := by show _ < _; simp
  clear ho hO
  generalize ([⟨g1, s1⟩, ⟨g2, s2⟩, ⟨g3, s3⟩, ⟨ga, sa⟩, ⟨gb, sb⟩, ⟨gn, sn⟩, ⟨!g1, s1⟩] : List Lt) = xs at HR hlen
  go_wp2_with fail
  generalize (wn.alloc (.cells #[.bool g1, .string s1, .bool g2, .string s2, .bool g3, .string s3, .bool ga, .string sa, .bool gb, .string sb, .bool gn, .string sn, .bool (!g1), .string s1] 23)) = w4 at HB3 HR hlb ⊢
  generalize wn.heap.size = lb at HR hlb ⊢
  go_loopw [38] (fun i wr => ∃ k : Nat, k ≤ 7 ∧ i = .int .i64 k ∧ Hid (Below w4.heap.size w4 wr)) (fun i _ => 7 - (intOf i).toNat)
  case atStart => exact ⟨0, by omega, rfl, Below.refl _ _⟩
  case round =>
    obtain ⟨k, hk, rfl, hbr⟩ := hrel
    by_cases hlt : k < 7
    · obtain ⟨c0, c1⟩ := HR.out k (by rw [hlen.out]; exact hlt)
      rw [← hbr.out.cell (p := ⟨lb, k * 2, none⟩) hlb.out] at c0
      rw [← hbr.out.cell (p := ⟨lb, k * 2 + 1, none⟩) hlb.out] at c1
      generalize xs[k]! = y at c0 c1
      obtain ⟨gy, sy⟩ := y
      simp only at c0 c1
      go_wp2_with fail
      have hY : YS wr wr.heap.size gy sy (wr.alloc (.cells #[.bool gy, .string sy] 23)) := ⟨heap_alloc_new wr _, (Below.refl _ _).alloc (Nat.le_refl _) _⟩
      clear c0 c1
      have hq1 : ∀ w, (Op.equalIn 10000 23 (.agg #[.bool (!gy), .string sy]) (.agg #[.bool (!gy), .string sy])).run Try.prog w = .ok true w := fun w => by rw [eqFieldsL]; simp
      have hq2 : ∀ w, (Op.equalIn 10000 23 (.agg #[.bool gy, .string sy]) (.agg #[.bool gy, .string sy])).run Try.prog w = .ok true w := fun w => by rw [eqFieldsL]; simp
      have hg1 := fun (op : BinOp) (a b : Operand) (w : World) => gdL op a b (!gy) (!gy) sy sy w
      have hg2 := fun (op : BinOp) (a b : Operand) (w : World) => gdL op a b gy gy sy sy w
      go_region_held3 (fun w' => w'.cell? ⟨wr.heap.size, 0, none⟩ = some (.bool gy) ∧ w'.cell? ⟨wr.heap.size, 1, none⟩ = some (.string sy) ∧ Hid (YS wr wr.heap.size gy sy w'))
        (first
          | exact hY.drew.all
          | exact hy.all
          | (go_split_ands; exact (YS.alloc (Hid.out (by assumption)) _).all))
        (first
          | (go_at_call 22; refine (rComplement_ys (w0 := wr) (yb := wr.heap.size) (g := gy) (s := sy) gy sy _ ?_).mono ?_; (go_split_ands; exact Hid.out (by assumption)); rintro e wn ⟨rfl, hy⟩)
          | (go_at_call 21; refine (complement_ys (w0 := wr) (yb := wr.heap.size) (g := gy) (s := sy) _ _ _ ?_).mono ?_; (go_split_ands; exact Hid.out (by assumption)); rintro e wn ⟨rfl, hy⟩))
      have HA := hidIt hy.k
      have HBn := hidIt hy.bel
      clear hy hY hq1 hq2 hg1 hg2
      go_wp2_with fail
      obtain ⟨wo, rfl⟩ : ∃ wo : World, wo = wr := ⟨_, rfl⟩
      generalize wo.heap.size = ya at HA ⊢
      go_loopw [56] (fun i wr => ∃ k2 : Nat, k2 ≤ 7 ∧ i = .int .i64 k2 ∧ Hid (Below wn.heap.size wn wr)) (fun i _ => 7 - (intOf i).toNat)
      case atStart => exact ⟨0, by omega, rfl, Below.refl _ _⟩
      case round =>
        obtain ⟨k2, hk2, rfl, hbr2⟩ := hrel
        by_cases hlt2 : k2 < 7
        · obtain ⟨c0, c1⟩ := HR.out k2 (by rw [hlen.out]; exact hlt2)
          have hlbr : lb < wr.heap.size := Nat.lt_of_lt_of_le hlb.out (Nat.le_trans hbr.out.size (Nat.le_trans HBn.out.size hbr2.out.size))
          have hb4r := hidIt ((hbr.out.trans (HBn.out.mono hbr.out.size)).trans (hbr2.out.mono (Nat.le_trans hbr.out.size HBn.out.size)))
          rw [← hb4r.out.cell (p := ⟨lb, k2 * 2, none⟩) hlb.out] at c0
          rw [← hb4r.out.cell (p := ⟨lb, k2 * 2 + 1, none⟩) hlb.out] at c1
          generalize xs[k2]! = z at c0 c1
          obtain ⟨gz, sz⟩ := z
          simp only at c0 c1
          have kA := block_kept HA.out hbr2.out
          have a0 := cell_two0 kA
          have a1 := cell_two1 kA
          have hya := lt_of_block kA
          have KA := hidIt kA
          clear kA
          have hcs := cmp_facts gy sy gz sz
          obtain ⟨n, HN, hn1, hn2, hcab, hrab, hcba, hqab, hcomp⟩ := hcs
          have HC1 := hidIt hcab; have HC2 := hidIt hrab; have HC3 := hidIt hcba; have HC4 := hidIt hcomp
          clear hcab hrab hcba hcomp
          have hgd := fun (op : BinOp) (a b : Operand) (w : World) => gdL op a b gy gz sy sz w
          go_wp2_with fail
          refine (HC1.out _).mono ?_
          rintro e w5 ⟨rfl, hb5⟩
          have hAB5 : AB wr ya gy sy wr.heap.size gz sz w5 := ⟨block_kept KA.out (below_of_alloc hb5), laid_two (only_of_below hb5 none) (by simp), below_of_alloc hb5⟩
          clear hb5 a0 a1 c0 c1
          obtain ⟨a0, a1, b0, b1⟩ := hAB5.cells
          go_wp2_with fail
          refine (HC2.out _).mono ?_
          rintro e w6 ⟨rfl, hb6⟩
          have hAB6 := hAB5.go hb6
          clear hb6 hAB5 a0 a1 b0 b1
          obtain ⟨a0, a1, b0, b1⟩ := hAB6.cells
          go_wp2_with fail
          refine (HC3.out _).mono ?_
          rintro e w7 ⟨rfl, hb7⟩
          have hAB7 := hAB6.go hb7
          clear hb7 hAB6 a0 a1 b0 b1
          obtain ⟨a0, a1, b0, b1⟩ := hAB7.cells
          go_wp2_with fail
          clear a0 a1 b0 b1
          cases hn : (sy.toList == sz.toList)
          · have HC := hidIt (HC4.out hn)
            go_region_held3 (fun w' => w'.cell? ⟨ya, 0, none⟩ = some (.bool gy) ∧ w'.cell? ⟨ya, 1, none⟩ = some (.string sy) ∧ w'.cell? ⟨wr.heap.size, 0, none⟩ = some (.bool gz) ∧ w'.cell? ⟨wr.heap.size, 1, none⟩ = some (.string sz) ∧ Hid (AB wr ya gy sy wr.heap.size gz sz w'))
              (first
                | exact hAB7.drew.all
                | exact hab.all
                | (go_split_ands; exact (AB.alloc (Hid.out (by assumption)) _).all))
              (first
                | (go_at_call 21; refine (complement_ab (w0 := wr) (ya := ya) (ga := gy) (sa := sy) (yb := wr.heap.size) (gb := gz) (sb := sz) _ _ _ ?_).mono ?_; (go_split_ands; exact Hid.out (by assumption)); rintro e wn2 ⟨rfl, hab⟩)
                | (go_at_call 23; refine (ab_of (HC.out _) hab).mono ?_; rintro e wn2 ⟨rfl, hab⟩))
            have HKA := hidIt (hab).ka
            have HKB := hidIt (hab).kb
            have HBX := hidIt (hab).bel
            clear hqab hgd
            go_wp2_with fail
            generalize wr.heap.size = yb at HKB ⊢
            obtain ⟨wm, rfl⟩ : ∃ wm : World, wm = wr := ⟨_, rfl⟩
            generalize hwX : wn2 = wX at HKA HKB HBX ⊢
            clear hwX
            go_loopw [99] (fun i wr => ∃ k3 : Nat, k3 ≤ 7 ∧ i = .int .i64 k3 ∧ Hid (Below wX.heap.size wX wr)) (fun i _ => 7 - (intOf i).toNat)
            case atStart => exact ⟨0, by omega, rfl, Below.refl _ _⟩
            case round =>
              obtain ⟨k3, hk3, rfl, hbr3⟩ := hrel
              have hmr : Hid (Below wm.heap.size wm wr) := HBX.out.trans (hbr3.out.mono HBX.out.size)
              have hnr : Hid (Below wn.heap.size wn wr) := hbr2.out.trans (hmr.out.mono hbr2.out.size)
              by_cases hlt3 : k3 < 7
              · obtain ⟨c0, c1⟩ := HR.out k3 (by rw [hlen.out]; exact hlt3)
                have h4m := hidIt (hb4r.out.trans (hmr.out.mono hb4r.out.size))
                rw [← h4m.out.cell (p := ⟨lb, k3 * 2, none⟩) hlb.out] at c0
                rw [← h4m.out.cell (p := ⟨lb, k3 * 2 + 1, none⟩) hlb.out] at c1
                have hlbr3 : lb < wr.heap.size := Nat.lt_of_lt_of_le hlb.out h4m.out.size
                generalize xs[k3]! = v at c0 c1
                obtain ⟨gv, sv⟩ := v
                simp only at c0 c1
                have kA := block_kept HKA.out hbr3.out
                have kB := block_kept HKB.out hbr3.out
                have a0 := cell_two0 kA
                have a1 := cell_two1 kA
                have b0 := cell_two0 kB
                have b1 := cell_two1 kB
                have hza := lt_of_block kA
                have hzb := lt_of_block kB
                have KA3 := hidIt kA
                clear kA kB
                obtain ⟨n2, HN2, _, _, hc2, _, _, _, _⟩ := cmp_facts gz sz gv sv
                obtain ⟨n3, HN3, _, _, hc3, _, _, _, _⟩ := cmp_facts gy sy gv sv
                have HC2' := hidIt hc2; have HC3' := hidIt hc3
                have htr : Hid (n ≤ 0 → n2 ≤ 0 → n3 ≤ 0) := fun h1 h2 => by rw [HN3.out]; exact cmpI_le_trans (b := ⟨gz, sz⟩) (by rw [← HN.out]; exact h1) (by rw [← HN2.out]; exact h2)
                clear hc2 hc3
                by_cases hle : n ≤ 0
                · go_wp2_with fail
                  refine (HC2'.out _).mono ?_
                  rintro e w8 ⟨rfl, hb8⟩
                  have KV := laid_two (w := wr) (only_of_below hb8 none) (by simp)
                  have hb8' := hidIt (below_of_alloc hb8)
                  have kA8 := block_kept KA3.out hb8'.out
                  clear hb8 a0 a1 b0 b1 c0 c1
                  have a0 := cell_two0 kA8
                  have a1 := cell_two1 kA8
                  have v0 := cell_two0 KV
                  have v1 := cell_two1 KV
                  clear kA8 KV
                  by_cases hle2 : n2 ≤ 0
                  · have hle3 := htr.out hle hle2
                    go_wp2_with fail
                    refine (HC3'.out _).mono ?_
                    rintro e w9 ⟨rfl, hb9⟩
                    have hb9' := hidIt hb9
                    clear hb9
                    go_wp2
                    go_roundw
                    case rel => exact ⟨k3 + 1, by omega, by go_num, (hbr3.out.trans (hb8'.out.mono hbr3.out.size)).trans (hb9'.out.mono (Nat.le_trans hbr3.out.size hb8'.out.size))⟩
                    case measure => simp [intOf]; omega
                  · go_wp2
                    go_roundw
                    case rel => exact ⟨k3 + 1, by omega, by go_num, hbr3.out.trans (hb8'.out.mono hbr3.out.size)⟩
                    case measure => simp [intOf]; omega
                · go_wp2
                  go_roundw
                  case rel => exact ⟨k3 + 1, by omega, by go_num, hbr3.out.alloc hbr3.out.size _⟩
                  case measure => simp [intOf]; omega
              · go_wp2
                go_roundw
                case rel => exact ⟨k2 + 1, by omega, by go_num, hnr.out⟩
                case measure => simp [intOf]; omega
          · obtain rfl : sz = sy := by rw [names_same] at hn; exact (of_decide_eq_true hn).symm
            clear hn
            obtain ⟨a0, a1, b0, b1⟩ := hAB7.cells
            go_quiet (fail)
            have HKA := hidIt ((⟨hAB7.ka, hAB7.kb, ⟨hAB7.bel.os, hAB7.bel.tape, hAB7.bel.output, hAB7.bel.size, hAB7.bel.block⟩⟩ : AB wr ya gy sz wr.heap.size gz sz (w7.drewN nq))).ka
            have HKB := hidIt ((⟨hAB7.ka, hAB7.kb, ⟨hAB7.bel.os, hAB7.bel.tape, hAB7.bel.output, hAB7.bel.size, hAB7.bel.block⟩⟩ : AB wr ya gy sz wr.heap.size gz sz (w7.drewN nq))).kb
            have HBX := hidIt ((⟨hAB7.ka, hAB7.kb, ⟨hAB7.bel.os, hAB7.bel.tape, hAB7.bel.output, hAB7.bel.size, hAB7.bel.block⟩⟩ : AB wr ya gy sz wr.heap.size gz sz (w7.drewN nq))).bel
            clear hqab hgd
            go_wp2_with fail
            generalize wr.heap.size = yb at HKB ⊢
            obtain ⟨wm, rfl⟩ : ∃ wm : World, wm = wr := ⟨_, rfl⟩
            generalize hwX : w7.drewN nq = wX at HKA HKB HBX ⊢
            clear hwX
            go_loopw [99] (fun i wr => ∃ k3 : Nat, k3 ≤ 7 ∧ i = .int .i64 k3 ∧ Hid (Below wX.heap.size wX wr)) (fun i _ => 7 - (intOf i).toNat)
            case atStart => exact ⟨0, by omega, rfl, Below.refl _ _⟩
            case round =>
              obtain ⟨k3, hk3, rfl, hbr3⟩ := hrel
              have hmr : Hid (Below wm.heap.size wm wr) := HBX.out.trans (hbr3.out.mono HBX.out.size)
              have hnr : Hid (Below wn.heap.size wn wr) := hbr2.out.trans (hmr.out.mono hbr2.out.size)
              by_cases hlt3 : k3 < 7
              · obtain ⟨c0, c1⟩ := HR.out k3 (by rw [hlen.out]; exact hlt3)
                have h4m := hidIt (hb4r.out.trans (hmr.out.mono hb4r.out.size))
                rw [← h4m.out.cell (p := ⟨lb, k3 * 2, none⟩) hlb.out] at c0
                rw [← h4m.out.cell (p := ⟨lb, k3 * 2 + 1, none⟩) hlb.out] at c1
                have hlbr3 : lb < wr.heap.size := Nat.lt_of_lt_of_le hlb.out h4m.out.size
                generalize xs[k3]! = v at c0 c1
                obtain ⟨gv, sv⟩ := v
                simp only at c0 c1
                have kA := block_kept HKA.out hbr3.out
                have kB := block_kept HKB.out hbr3.out
                have a0 := cell_two0 kA
                have a1 := cell_two1 kA
                have b0 := cell_two0 kB
                have b1 := cell_two1 kB
                have hza := lt_of_block kA
                have hzb := lt_of_block kB
                have KA3 := hidIt kA
                clear kA kB
                obtain ⟨n2, HN2, _, _, hc2, _, _, _, _⟩ := cmp_facts gz sz gv sv
                obtain ⟨n3, HN3, _, _, hc3, _, _, _, _⟩ := cmp_facts gy sz gv sv
                have HC2' := hidIt hc2; have HC3' := hidIt hc3
                have htr : Hid (n ≤ 0 → n2 ≤ 0 → n3 ≤ 0) := fun h1 h2 => by rw [HN3.out]; exact cmpI_le_trans (b := ⟨gz, sz⟩) (by rw [← HN.out]; exact h1) (by rw [← HN2.out]; exact h2)
                clear hc2 hc3
                by_cases hle : n ≤ 0
                · go_wp2_with fail
                  refine (HC2'.out _).mono ?_
                  rintro e w8 ⟨rfl, hb8⟩
                  have KV := laid_two (w := wr) (only_of_below hb8 none) (by simp)
                  have hb8' := hidIt (below_of_alloc hb8)
                  have kA8 := block_kept KA3.out hb8'.out
                  clear hb8 a0 a1 b0 b1 c0 c1
                  have a0 := cell_two0 kA8
                  have a1 := cell_two1 kA8
                  have v0 := cell_two0 KV
                  have v1 := cell_two1 KV
                  clear kA8 KV
                  by_cases hle2 : n2 ≤ 0
                  · have hle3 := htr.out hle hle2
                    go_wp2_with fail
                    refine (HC3'.out _).mono ?_
                    rintro e w9 ⟨rfl, hb9⟩
                    have hb9' := hidIt hb9
                    clear hb9
                    go_wp2
                    go_roundw
                    case rel => exact ⟨k3 + 1, by omega, by go_num, (hbr3.out.trans (hb8'.out.mono hbr3.out.size)).trans (hb9'.out.mono (Nat.le_trans hbr3.out.size hb8'.out.size))⟩
                    case measure => simp [intOf]; omega
                  · go_wp2
                    go_roundw
                    case rel => exact ⟨k3 + 1, by omega, by go_num, hbr3.out.trans (hb8'.out.mono hbr3.out.size)⟩
                    case measure => simp [intOf]; omega
                · go_wp2
                  go_roundw
                  case rel => exact ⟨k3 + 1, by omega, by go_num, hbr3.out.alloc hbr3.out.size _⟩
                  case measure => simp [intOf]; omega
              · go_wp2
                go_roundw
                case rel => exact ⟨k2 + 1, by omega, by go_num, hnr.out⟩
                case measure => simp [intOf]; omega
        · go_wp2
          go_roundw
          case rel => exact ⟨k + 1, by omega, by go_num, (hbr.out.trans (HBn.out.mono hbr.out.size)).trans (hbr2.out.mono (Nat.le_trans hbr.out.size HBn.out.size))⟩
          case measure => simp [intOf]; omega
    · go_wp2_with fail
      refine (awake_any _).mono ?_
      rintro e w5 ⟨rfl, hb5⟩
      have HB5 := hidIt ((HB3.out.trans (hbr.out.mono HB3.out.size)).trans (hb5.mono (Nat.le_trans HB3.out.size hbr.out.size)))
      clear hb5
      go_wp2
      go_ret
      exact ⟨rfl, HB5.out⟩
end Go.Proofs.Ytepahdjijddiiaa
