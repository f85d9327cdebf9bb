/- What the laws of chapter 13 keep of memory; what follows for lists. The reference's functions on sets: hit, ConflictFree, Defends. The reference's Admissible, IsComplete, Range, IsStable. The program's functions on sets: ConflictFree, Defends, Step, Admissible, IsComplete, IsStable, Range. The reference's Step, inside, Admissible, IsComplete, Range; keep's Inside. The reference's Sets: all sets of a few nodes. The law's insert: ascending numbers with one more. The law SearchLarge: for every list of numbers it answers true. The reference's Labellings: all labellings of some nodes, in order. The law SearchExact, the plain half: all labellings, and all sets, of at most six nodes are tried. The law SearchExact: for every list of numbers it answers true. -/
import Derived.Test.YtfiaoibfejginaaDoorNew
import Derived.Test.YtfiaoibfejginaaDoorG1I
import Derived.Test.YtfiaoibfejginaaDoorZ4R
import Derived.BigQuiet
import Derived.Test.YtfiaoibfejginaaDoorZ4N
import Derived.Test.YtfiaoibfejginaaDoorG0I
import Derived.Test.YtfiaoibfejginaaDoorG0H
import Derived.Test.YtfiaoibfejginaaDoorRelN
import Derived.Test.YtfiaoibfejginaaDoorRelS
import Derived.Test.YtfiaoibfejginaaDoorG0A
import Derived.Test.YtfiaoibfejginaaDoorZ4B
import Derived.Test.YtfiaoibfejginaaDoorG1Dl
import Derived.Test.YtfiaoibfejginaaDoorZ4D
import Derived.Deep.CutRange
import Derived.Test.YtfiaoibfejginaaDoorZ4L1P
import Derived.Test.YtfiaoibfejginaaDoorZ4L1Nx
import Derived.Deep.Cut

namespace Go.Proofs.YtfiaoibfejginaaDoor
set_option linter.unusedVariables false
set_option linter.unusedSimpArgs false
open Go Go.RowKit Go.Sort

/-- The law's graph lies in its box; the library's table lies. -/
structure LW (w0 : World) (G N : Nat) (a : Option Addr) (c : Nat) (ps : List (Int × Int)) (w : World) : Prop where
  x : w.heap[G]? = some (.cells #[.int .i64 (N : Int), .slice a ps.length c] 24 (0, 0))
  p : PairsAt w (.slice a ps.length c) ps
  t : Tab w
  b : Below w0.heap.size w0 w
theorem LW.go {w0 : World} {G N : Nat} {a : Option Addr} {c : Nat} {ps : List (Int × Int)} {w w' : World} (h : LW w0 G N a c ps w) (hb : Below w.heap.size w w') : LW w0 G N a c ps w' :=
  ⟨blk_kept2 h.x hb, h.p.below hb, h.t.go hb, h.b.trans (Below.mono hb h.b.size)⟩
theorem LW.c0 {w0 : World} {G N : Nat} {a : Option Addr} {c : Nat} {ps : List (Int × Int)} {w : World} (h : LW w0 G N a c ps w) : w.cell? ⟨G, 0, none⟩ = some (.int .i64 (N : Int)) := cell_two0 h.x
theorem LW.c1 {w0 : World} {G N : Nat} {a : Option Addr} {c : Nat} {ps : List (Int × Int)} {w : World} (h : LW w0 G N a c ps w) : w.cell? ⟨G, 1, none⟩ = some (.slice a ps.length c) := cell_two1 h.x
theorem LW.l {w0 : World} {G N : Nat} {a : Option Addr} {c : Nat} {ps : List (Int × Int)} {w : World} (h : LW w0 G N a c ps w) : G < w.heap.size := lt_of_block h.x
theorem below_read13 {w a a' : World} {b : Nat} (h : Below b w a) (hg : a.grownBy a' (some b)) (hna : b ≤ a.heap.size) : Below b w a' := below_app5 h hg (fun g e => by injection e with e; omega) hna

section
variable {N : Nat} {ps : List (Int × Int)} (hix : ∀ p ∈ ps, (0 ≤ p.1 ∧ p.1 < (N : Int)) ∧ (0 ≤ p.2 ∧ p.2 < (N : Int)))
include hix
end
end Go.Proofs.YtfiaoibfejginaaDoor

namespace Go.Proofs.YtfiaoibfejginaaDoor
set_option linter.unusedVariables false
set_option linter.unusedSimpArgs false
open Go Go.RowKit Go.Sort

theorem any_step13 {xs : List Int} {k : Nat} (h : k < xs.length) (f : Int → Bool) : (xs.take (k + 1)).any f = ((xs.take k).any f || f xs[k]) := by
  rw [List.take_succ_eq_append_getElem h, List.any_append]
  simp
theorem hit_list {N : Nat} {ps : List (Int × Int)} (hix : ∀ p ∈ ps, (0 ≤ p.1 ∧ p.1 < (N : Int)) ∧ (0 ≤ p.2 ∧ p.2 < (N : Int))) (x : List Int) (i : Nat) : hitX ps (memB x) i = x.any fun z => decide ((z, (i : Int)) ∈ ps) := by
  rw [Bool.eq_iff_iff, hitX_iff hix, List.any_eq_true]
  constructor
  · rintro ⟨k, hk, hx⟩
    exact ⟨(k : Int), of_decide_eq_true hx, decide_eq_true hk⟩
  · rintro ⟨z, hz, hp⟩
    have hp := of_decide_eq_true hp
    have := hix _ hp
    simp only at this
    obtain ⟨k, rfl⟩ : ∃ k : Nat, z = (k : Int) := ⟨z.toNat, by omega⟩
    exact ⟨k, hp, decide_eq_true hz⟩
theorem cf_list {N : Nat} {ps : List (Int × Int)} (hix : ∀ p ∈ ps, (0 ≤ p.1 ∧ p.1 < (N : Int)) ∧ (0 ≤ p.2 ∧ p.2 < (N : Int))) (x : List Int) : cfX ps (memB x) = !(x.any fun a => x.any fun b => decide ((a, b) ∈ ps)) := by
  rw [Bool.eq_iff_iff, cfX_iff hix, Bool.not_eq_true', List.any_eq_false]
  constructor
  · intro h a ha hb
    obtain ⟨b, hb, hp⟩ := List.any_eq_true.1 hb
    have hp := of_decide_eq_true hp
    have := hix _ hp
    simp only at this
    obtain ⟨k, rfl⟩ : ∃ k : Nat, a = (k : Int) := ⟨a.toNat, by omega⟩
    obtain ⟨i, rfl⟩ : ∃ i : Nat, b = (i : Int) := ⟨b.toNat, by omega⟩
    exact h k i hp (decide_eq_true ha) (decide_eq_true hb)
  · intro h k i hk h1 h2
    exact h _ (of_decide_eq_true h1) (List.any_eq_true.2 ⟨_, of_decide_eq_true h2, decide_eq_true hk⟩)
theorem df_list {N : Nat} {ps : List (Int × Int)} (hix : ∀ p ∈ ps, (0 ≤ p.1 ∧ p.1 < (N : Int)) ∧ (0 ≤ p.2 ∧ p.2 < (N : Int))) (X : Nat → Bool) (i : Nat) : dfX ps X i = !((inL ps (i : Int)).any fun z => !(hitX ps X z.toNat)) := by
  rw [Bool.eq_iff_iff, dfX_iff hix, Bool.not_eq_true', List.any_eq_false]
  unfold inL
  constructor
  · intro h z hz
    rw [List.mem_map] at hz
    obtain ⟨p, hp, rfl⟩ := hz
    obtain ⟨hp, he⟩ := List.mem_filter.1 hp
    have hr := hix p hp
    have he := beq_iff_eq.1 he
    have e2 : ((p.1.toNat : Int), (i : Int)) = p := Prod.ext (by simp only; omega) he.symm
    rw [(hitX_iff hix).2 (h p.1.toNat (by unfold At; rw [e2]; exact hp))]
    decide
  · intro h k hk
    have := h (k : Int) (List.mem_map.2 ⟨_, List.mem_filter.2 ⟨hk, beq_iff_eq.2 rfl⟩, rfl⟩)
    rw [Int.toNat_natCast] at this
    exact (hitX_iff hix).1 (by simpa using this)

set_option maxRecDepth 100000 in
set_option maxHeartbeats 2000000 in
theorem raConflictFree_any (N : Nat) (v v2 : Value) (ps : List (Int × Int)) (x : List Int) (w : World) (h : PairsAt w v ps) (hok : GOk (N : Int) ps) (hpl : ps.length ≤ 100000) (hs : IL w v2 x) (hsl : x.length ≤ 100000) :
    Calls Tryd.prog 21 #[.agg #[.int .i64 (N : Int), v], v2] w fun e w' => e = .returned (.bool (setB N x && cfX ps (memB x))) ∧ Below w.heap.size w w' := by
  have hB := bgrow w (.cells #[.int .i64 (N : Int), v] 24)
  have H1 := hidIt (h.below hB)
  have H2 := hidIt (hs.below hB)
  obtain ⟨a, c, rfl, -⟩ := h.form
  obtain ⟨a2, c2, rfl, k2⟩ := (hs.below hB).ic
  have K2 := hidIt k2
  have HX := hidIt (heap_alloc_new w (.cells #[.int .i64 (N : Int), .slice a ps.length c] 24))
  have HB := hidIt hB
  have HVL := hidIt (vL_of hok)
  have HPL := hidIt hpl
  have HSL := hidIt hsl
  have HM : Hid (∀ r, (setB N x && cfX ps (memB x)) = r ↔ (setB N x && !(x.any fun a => x.any fun b => decide ((a, b) ∈ ps))) = r) := fun r => by rw [cf_list hok.ix]
  generalize (setB N x && cfX ps (memB x)) = R at *
  generalize hf : (fun a b : Int => decide ((a, b) ∈ ps)) = f
  have HM1 : Hid (R = (setB N x && !(x.any fun a => x.any (f a)))) := by
    show _ = _
    rw [← hf]
    exact ((HM.out R).1 rfl).symm
  have HFF : Hid (∀ a b : Int, decide ((a, b) ∈ ps) = f a b) := fun a b => by rw [← hf]
  clear h hs hB k2 hok hpl hf HM
  go_enter Tryd.func21, Tryd.ntmps21
  go_upto_region 1 with (fail)
  generalize (w.alloc (.cells #[.int .i64 (N : Int), .slice a ps.length c] 24)) = w1 at *
  generalize w.heap.size = P at HX ⊢
  obtain ⟨M, hM⟩ : ∃ M, M = x.length := ⟨_, rfl⟩
  have HML := hidIt hM
  rw [← hM] at hsl H2 ⊢
  clear hM
  go_wp2_with fail
  go_loopw [5, 6] (fun i _ wr => ∃ k : Nat, k ≤ M ∧ i = .int .i64 k ∧ Hid (Below w1.heap.size w1 wr) ∧ Hid ((x.take k).any (fun a => x.any (f a)) = false)) (fun i _ _ => M - (intOf i).toNat)
  case atStart => exact ⟨0, Nat.zero_le _, (by first | rfl | trivial), Below.refl _ _, (rfl : (([] : List Int).any _) = false)⟩
  case round =>
    obtain ⟨k, hk, rfl, HBr, HT⟩ := hrel
    have hkI0 : (0 : Int) ≤ (k : Int) := by omega
    by_cases hlt : k < M
    · have hkI : (k : Int) < (M : Int) := by omega
      have h1x : k < x.length := by have := HML.out; omega
      have HST := hidIt (any_step13 h1x (fun a => x.any (f a)))
      have HKX := hidIt (List.getElem_mem h1x)
      have HGE : Hid (∀ w3 : World, Below w1.heap.size w1 w3 → ∃ b o, a2 = some ⟨b, o, none⟩ ∧ b < w3.heap.size ∧ w3.cell? ⟨b, o + k, none⟩ = some (.int .i64 x[k])) := fun w3 h => by
        obtain ⟨b, o, e, l, hc⟩ := (K2.out.go h).at_ h1x
        exact ⟨b, o, e, l, hc k h1x⟩
      generalize x[k] = z at *
      clear h1x
      go_wp2_with fail
      go_loopw [6] (fun j w' => ∃ q : Nat, q ≤ M ∧ j = .int .i64 q ∧ Hid (Below w1.heap.size w1 w') ∧ Hid ((x.take q).any (f z) = false)) (fun j _ => M - (intOf j).toNat)
      case atStart => exact ⟨0, Nat.zero_le _, (by first | rfl | trivial), HBr.out, (rfl : (([] : List Int).any _) = false)⟩
      case round =>
        clear HBr
        obtain ⟨q, hq, rfl, HBr, HTq⟩ := hrel
        have hqI0 : (0 : Int) ≤ (q : Int) := by omega
        by_cases hqt : q < M
        · have hqI : (q : Int) < (M : Int) := by omega
          have h1q : q < x.length := by have := HML.out; omega
          have HXr := hidIt (blk_kept2 HX.out HBr.out)
          obtain ⟨b1, o1, rfl, l1, p0⟩ := HGE.out wr HBr.out
          have q0 : wr.cell? ⟨b1, o1 + q, none⟩ = some (.int .i64 x[q]) := by
            obtain ⟨b', o', he, -, hc⟩ := (K2.out.go HBr.out).at_ h1q
            injection he with he
            injection he with he1 he2
            subst he1 he2
            exact hc q h1q
          have HSQ := hidIt (any_step13 h1q (f z))
          have HTL : Hid (f z x[q] = true → x.any (fun a => x.any (f a)) = true) := fun h => List.any_eq_true.2 ⟨z, HKX.out, List.any_eq_true.2 ⟨_, List.getElem_mem h1q, h⟩⟩
          generalize x[q] = y at *
          clear h1q
          have x0 := cell_two0 HXr.out
          have x1 := cell_two1 HXr.out
          have lx := lt_of_block HXr.out
          have X0 := fun y => Ext.cell x0 y
          have X1 := fun y => Ext.cell x1 y
          have P0 := fun y => Ext.cell p0 y
          have Q0 := fun y => Ext.cell q0 y
          have LX := fun y : In (Ext wr) => Nat.lt_of_lt_of_le lx (Below.size y.h)
          have LP := fun y : In (Ext wr) => Nat.lt_of_lt_of_le l1 (Below.size y.h)
          have HC : Hid (∀ wx : World, Ext wr wx → Calls Tryd.prog 41 #[.agg #[.int .i64 (N : Int), .slice a ps.length c], .int .i64 z, .int .i64 y] wx fun e w' => e = .returned (.bool (f z y)) ∧ Below wx.heap.size wx w') := fun wx hC => by
            have := rgHas_any (N : Int) _ ps z y wx ((H1.out.below HBr.out).below hC) (by have := HPL.out; omega)
            rw [HVL.out, HFF.out z y] at this
            exact this
          cases hfz : f z y
          · have HE : Hid ((x.take (q + 1)).any (f z) = false) := by show _ = _; rw [HSQ.out, HTq.out, hfz]; rfl
            rw [hfz] at HC
            clear hfz
            go_wp2_with fail
            haveI := Ext.nonempty wr
            refine wp_region_in (Ext wr) (by kernel_rfl) (by kernel_rfl) (Ext.start wr) ?_
            repeat (go_big_quiet_step ((go_at_call 41; refine Ext.call (HC.out _ (In.h _)))))
            refine wpQuiet_nil ?_
            rintro w5 ⟨⟨_, h5⟩, rfl⟩
            have HB5 := hidIt (HBr.out.trans (Below.mono h5 HBr.out.size))
            clear h5 X0 X1 P0 Q0 LX LP x0 x1 lx p0 q0 l1
            go_wp2_with fail
            go_roundw
            case rel => exact ⟨q + 1, by omega, by go_num, HB5.out, HE.out⟩
            case measure => simp [intOf]; omega
          · have HE : Hid (R = false) := by
              show _ = _
              rw [HM1.out, HTL.out hfz, Bool.not_true, Bool.and_false]
            rw [hfz] at HC
            clear hfz
            go_wp2_with fail
            haveI := Ext.nonempty wr
            refine wp_region_in (Ext wr) (by kernel_rfl) (by kernel_rfl) (Ext.start wr) ?_
            repeat (go_big_quiet_step ((go_at_call 41; refine Ext.call (HC.out _ (In.h _)))))
            refine wpQuiet_nil ?_
            rintro w5 ⟨⟨_, h5⟩, rfl⟩
            have HB5 := hidIt (HB.out.trans (Below.mono (HBr.out.trans (Below.mono h5 HBr.out.size)) HB.out.size))
            clear h5 X0 X1 P0 Q0 LX LP x0 x1 lx p0 q0 l1
            go_wp2_with fail
            go_ret
            exact ⟨ret_bool HE.out.symm, HB5.out⟩
        · have hqI : ¬ (q : Int) < (M : Int) := by omega
          have HE : Hid ((x.take (k + 1)).any (fun a => x.any (f a)) = false) := by
            have := HTq.out
            rw [List.take_of_length_le (by have := HML.out; omega)] at this
            show _ = _
            rw [HST.out, HT.out, this]
            rfl
          go_wp2_with fail
          go_roundw
          case rel => exact ⟨k + 1, by omega, by go_num, HBr.out, HE.out⟩
          case measure => simp [intOf]; omega
    · have hkI : ¬ (k : Int) < (M : Int) := by omega
      have HE : Hid (R = setB N x) := by
        have := HT.out
        rw [List.take_of_length_le (by have := HML.out; omega)] at this
        show _ = _
        rw [HM1.out, this, Bool.not_false, Bool.and_true]
      have HXr := hidIt (blk_kept2 HX.out HBr.out)
      have x0 := cell_two0 HXr.out
      have x1 := cell_two1 HXr.out
      have lx := lt_of_block HXr.out
      go_wp2_with fail
      refine (raValid_any N _ _ ps x wr (H1.out.below HBr.out) (by have := H2.out.below HBr.out; rwa [HML.out] at this ⊢) HSL.out).mono ?_
      rintro e w5 ⟨rfl, hb5⟩
      have HB5 := hidIt (HB.out.trans (Below.mono (HBr.out.trans (Below.mono hb5 HBr.out.size)) HB.out.size))
      clear hb5
      go_wp2_with fail
      go_ret
      exact ⟨ret_bool HE.out.symm, HB5.out⟩

end Go.Proofs.YtfiaoibfejginaaDoor

namespace Go.Proofs.YtfiaoibfejginaaDoor
set_option linter.unusedVariables false
set_option linter.unusedSimpArgs false
open Go Go.RowKit Go.Sort

def isIq13 (m : Nat) (xs : List Int) : Value → World → Prop := fun v w => ∃ (a : Option Addr) (c : Nat), v = .slice a m c ∧ IL w (.slice a m c) xs
theorem isIq13_up (m : Nat) (xs : List Int) : GoesUp (isIq13 m xs) := fun _ _ _ hg ⟨a, c, h1, h2⟩ => ⟨a, c, h1, h2.below hg⟩
theorem isIq13_use {m : Nat} {xs : List Int} {a : Option Addr} {c : Nat} {w : World} (h : isIq13 m xs (.slice a m c) w) : IL w (.slice a m c) xs := by
  obtain ⟨a', c', h1, h2⟩ := h
  rw [h1]
  exact h2
end Go.Proofs.YtfiaoibfejginaaDoor

namespace Go.Proofs.YtfiaoibfejginaaDoor
set_option linter.unusedVariables false
set_option linter.unusedSimpArgs false
open Go Go.RowKit Go.Sort

theorem OwnI.base {w : World} {B B' : Nat} {v : Value} {zs : List Int} (h : OwnI w B v zs) (hB : B' ≤ B) : OwnI w B' v zs :=
  ⟨h.1, by
    rcases h.2 with h0 | ⟨g, cap, cur, hv, hB2, h2⟩
    · exact .inl h0
    · exact .inr ⟨g, cap, cur, hv, Nat.le_trans hB hB2, h2⟩⟩
end Go.Proofs.YtfiaoibfejginaaDoor

namespace Go.Proofs.YtfiaoibfejginaaDoor
set_option linter.unusedVariables false
set_option linter.unusedSimpArgs false
open Go Go.RowKit Go.Sort

/-- All elements of the one are elements of the other. -/
def subL (xs ys : List Int) : Bool := !(xs.any fun z => !decide (z ∈ ys))
theorem subL_iff {xs ys : List Int} : subL xs ys = true ↔ ∀ z ∈ xs, z ∈ ys := by
  unfold subL
  rw [Bool.not_eq_true', List.any_eq_false]
  constructor
  · intro h z hz
    have := h z hz
    simpa using this
  · intro h z hz
    simp [h z hz]
theorem subL_set {N : Nat} {X Y : Nat → Bool} : subL (setL N X) (setL N Y) = subX N X Y := by
  rw [Bool.eq_iff_iff, subL_iff, subX_iff]
  constructor
  · intro h i hi hx
    obtain ⟨j, h1, h2, h3⟩ := mem_setL.1 (h (i : Int) (mem_setL.2 ⟨i, hi, hx, rfl⟩))
    obtain rfl : i = j := Int.ofNat.inj h3
    exact h2
  · intro h z hz
    obtain ⟨i, h1, h2, rfl⟩ := mem_setL.1 hz
    exact mem_setL.2 ⟨i, h1, h i h1 h2, rfl⟩

set_option maxRecDepth 100000 in
set_option maxHeartbeats 1000000 in
theorem kInside_any (v1 v2 : Value) (xs ys : List Int) (w : World) (h1 : IL w v1 xs) (h2 : IL w v2 ys) (hn : xs.length ≤ 100000) (hm : ys.length ≤ 100000) :
    Calls Tryd.prog 22 #[v1, v2] w fun e w' => e = .returned (.bool (subL xs ys)) ∧ w' = w := by
  have H2 := hidIt h2
  have HMN := hidIt hm
  obtain ⟨a1, c1, rfl, k1⟩ := h1.ic
  have K1 := hidIt k1
  obtain ⟨a2, c2, rfl, -⟩ := h2.form
  have HR : Hid (subL xs ys = !(xs.any fun z => !decide (z ∈ ys))) := (rfl : _ = _)
  generalize subL xs ys = R at *
  generalize hg : (fun z : Int => !decide (z ∈ ys)) = g at HR
  have HG : Hid (∀ z : Int, decide (z ∈ ys) = !(g z)) := fun z => by rw [← hg, Bool.not_not]
  clear h1 h2 k1 hg hm
  obtain ⟨M, hM⟩ : ∃ M, M = xs.length := ⟨_, rfl⟩
  have HX := hidIt hM
  rw [← hM] at hn ⊢
  clear hM
  go_enter Tryd.func22, Tryd.ntmps22
  go_wp2_with fail
  go_loopw [5, 8] (fun _ i wr => ∃ k : Nat, k ≤ M ∧ i = .int .i64 k ∧ wr = w ∧ Hid ((xs.take k).any g = false)) (fun _ i _ => M - (intOf i).toNat)
  case atStart => exact ⟨0, Nat.zero_le _, (by first | rfl | trivial), (by first | rfl | trivial), (rfl : (([] : List Int).any _) = false)⟩
  case round =>
    obtain ⟨k, hk, rfl, rfl, HT⟩ := hrel
    have hkI0 : (0 : Int) ≤ (k : Int) := by omega
    by_cases hlt : k < M
    · have hkI : (k : Int) < (M : Int) := by omega
      have h1x : k < xs.length := by have := HX.out; omega
      obtain ⟨b1, o1, rfl, l1, hc1⟩ := K1.out.at_ h1x
      have p0 := hc1 k h1x
      have HST := hidIt (any_step13 h1x g)
      have HTL : Hid (g xs[k] = true → xs.any g = true) := fun h => List.any_eq_true.2 ⟨_, List.getElem_mem h1x, h⟩
      generalize xs[k] = z at *
      clear hc1 h1x
      have HC := hidIt (kIn_any _ ys z wr H2.out (by have := HMN.out; omega))
      rw [HG.out z] at HC
      cases hgz : g z
      · have HE : Hid ((xs.take (k + 1)).any g = false) := by show _ = _; rw [HST.out, HT.out, hgz]; rfl
        rw [hgz] at HC
        clear hgz
        go_wp2_with fail
        refine HC.out.mono ?_
        rintro e w5 ⟨rfl, rfl⟩
        go_wp2_with fail
        go_roundw
        case rel => exact ⟨k + 1, by omega, by go_num, (by first | rfl | trivial), HE.out⟩
        case measure => simp [intOf]; omega
      · have HE : Hid (R = false) := by show _ = _; rw [HR.out, HTL.out hgz]; rfl
        rw [hgz] at HC
        clear hgz
        go_wp2_with fail
        refine HC.out.mono ?_
        rintro e w5 ⟨rfl, rfl⟩
        go_wp2_with fail
        go_ret
        exact ⟨ret_bool HE.out.symm, rfl⟩
    · have hkI : ¬ (k : Int) < (M : Int) := by omega
      have HE : Hid (R = true) := by
        have := HT.out
        rw [List.take_of_length_le (by have := HX.out; omega)] at this
        show _ = _
        rw [HR.out, this]
        rfl
      go_wp2_with fail
      go_ret
      exact ⟨ret_bool HE.out.symm, rfl⟩

/-- The nodes below k that are in the set. -/
def setTo (X : Nat → Bool) (k : Nat) : List Nat := (List.range k).filter X
theorem setTo_step (X : Nat → Bool) (k : Nat) : setTo X (k + 1) = setTo X k ++ if X k = true then [k] else [] := by
  unfold setTo
  rw [List.range_succ, List.filter_append]
  congr 1
  cases h : X k <;> simp [h]
theorem setTo_len (X : Nat → Bool) (k : Nat) : (setTo X k).length ≤ k := by
  unfold setTo
  exact Nat.le_trans (List.length_filter_le _ _) (by rw [List.length_range]; exact Nat.le_refl _)
end Go.Proofs.YtfiaoibfejginaaDoor

namespace Go.Proofs.YtfiaoibfejginaaDoor
set_option linter.unusedVariables false
set_option linter.unusedSimpArgs false
open Go Go.RowKit Go.Sort

/-- Has the number the bit? -/
def tb (m i : Nat) : Bool := bits .and .i64 ((m : Int) / 2 ^ i) 1 == 1
theorem tb_zero (i : Nat) : tb 0 i = false := by
  unfold tb
  rw [show ((0 : Nat) : Int) / 2 ^ i = 0 from Int.zero_ediv _]
  rfl
/-- All sets of n nodes. -/
def setsL (n : Nat) : List (List Int) := (List.range (2 ^ n)).map fun m => setL n (tb m)
def setsTo (n m : Nat) : List (List Int) := (List.range m).map fun m => setL n (tb m)
theorem setsTo_step (n m : Nat) : setsTo n (m + 1) = setsTo n m ++ [setL n (tb m)] := by
  unfold setsTo
  rw [List.range_succ, List.map_append]
  rfl
theorem setsTo_len (n m : Nat) : (setsTo n m).length = m := by simp [setsTo]
theorem setsL_len (n : Nat) : (setsL n).length = 2 ^ n := by simp [setsL]
theorem setsL_get {n : Nat} {m : Nat} (h : m < (setsL n).length) : (setsL n)[m] = setL n (tb m) := by simp [setsL]
theorem setsL_set {n : Nat} {m : Nat} (h : m < (setsL n).length) : setB n (setsL n)[m] = true := by rw [setsL_get]; exact setB_setL n _

set_option maxRecDepth 100000 in
set_option maxHeartbeats 4000000 in
theorem rlSets_any (n : Nat) (hn : n ≤ 10) (w : World) :
    Calls Tryd.prog 20 #[.int .i64 (n : Int)] w fun e w' => ∃ (a : Option Addr) (c : Nat), e = .returned (.slice a (2 ^ n) c) ∧ LL w' (.slice a (2 ^ n) c) (setsL n) ∧ Below w.heap.size w w' := by
  obtain ⟨K, hK⟩ : ∃ K, K = 2 ^ n := ⟨_, rfl⟩
  have HK := hidIt hK
  have hKI : (2 : Int) ^ n = (K : Int) := by rw [hK]; exact (Int.natCast_pow 2 n).symm ▸ rfl
  have hK1 : K ≤ 1024 := by rw [hK]; exact Nat.pow_le_pow_right (by decide) hn
  have hw1 : IntKind.i64.wrap (2 ^ n) = (K : Int) := by rw [hKI]; exact IntWalk.i64_in _ (by omega)
  have hmn : min n 64 = n := by omega
  have hu : IntKind.u64.wrap (n : Int) = (n : Int) := by rw [show IntKind.u64.wrap (n : Int) = (n : Int) % 18446744073709551616 from IntKind.wrap_u64 _]; omega
  rw [← hK]
  clear hK
  go_enter Tryd.func20, Tryd.ntmps20
  go_wp2_with fail
  go_loopw [3, 4, 5, 6] (fun v3 v4 _ _ wr => ∃ (m : Nat) (a : Option Addr) (c : Nat), m ≤ K ∧ v4 = .int .i64 m ∧ v3 = .slice a m c ∧ Hid (OwnLL wr w.heap.size (.slice a m c) (setsTo n m)) ∧ Hid (Below w.heap.size w wr)) (fun _ v4 _ _ _ => K - (intOf v4).toNat)
  case atStart => exact ⟨0, none, 0, Nat.zero_le _, (by first | rfl | trivial), (by first | rfl | trivial), OwnLL.nil _ _, Below.refl _ _⟩
  case round =>
    obtain ⟨m, a, c, hm, rfl, rfl, HL, HB⟩ := hrel
    have hm0 : (0 : Int) ≤ (m : Int) := by omega
    have hnn : (0 : Int) ≤ (n : Int) := by omega
    by_cases hlt : m < K
    · have hmI : (m : Int) < (K : Int) := by omega
      obtain ⟨wi, hwi⟩ : ∃ wi, wi = wr := ⟨_, rfl⟩
      subst hwi
      go_wp2_with fail
      go_loopw [5, 6] (fun v5 v6 wr => ∃ (i l : Nat) (b : Option Addr) (d : Nat), i ≤ n ∧ v6 = .int .i64 i ∧ v5 = .slice b l d ∧ Hid (l = (setTo (tb m) i).length) ∧ Hid (OwnI wr wi.heap.size (.slice b l d) (ints (setTo (tb m) i))) ∧ Hid (Below wi.heap.size wi wr)) (fun _ v6 _ => n - (intOf v6).toNat)
      case atStart => exact ⟨0, 0, none, 0, Nat.zero_le _, (by first | rfl | trivial), (by first | rfl | trivial), (rfl : 0 = (setTo (tb m) 0).length), OwnI.nil _ _, Below.refl _ _⟩
      case round =>
        obtain ⟨i, l, b, d, hi, rfl, rfl, HLI, HO, HBi⟩ := hrel
        have hi0 : (0 : Int) ≤ (i : Int) := by omega
        by_cases hin : i < n
        · have hiI : (i : Int) < (n : Int) := by omega
          have HST := hidIt (setTo_step (tb m) i)
          have hl5 : l ≤ i := by rw [HLI.out]; exact setTo_len _ _
          have hmi : min i 64 = i := by omega
          have hui : IntKind.u64.wrap (i : Int) = (i : Int) := by rw [IntKind.wrap_u64]; omega
          cases htb : tb m i
          · rw [htb, if_neg (by decide), List.append_nil] at HST
            have hb : (bits .and .i64 ((m : Int) / 2 ^ i) 1 == 1) = false := htb
            clear htb
            go_wp2_with fail
            go_roundw
            case rel => exact ⟨i + 1, l, b, d, by omega, by go_num, (by first | rfl | trivial), (by rw [HST.out]; exact HLI.out), (by rw [HST.out]; exact HO.out), HBi.out⟩
            case measure => simp [intOf]; omega
          · rw [htb, if_pos rfl] at HST
            have hb : (bits .and .i64 ((m : Int) / 2 ^ i) 1 == 1) = true := htb
            clear htb
            have HTL : Hid ((ints (setTo (tb m) i)).length = l) := by show _ = _; rw [ints_len]; exact HLI.out.symm
            have HO7 := hidIt (HO.out.news HTL.out (.cells #[.int .i64 (i : Int)] 3))
            have HB7 := hidIt (HBi.out.trans (Below.mono (bgrow wr (.cells #[.int .i64 (i : Int)] 3)) HBi.out.size))
            have hsz7 : wi.heap.size ≤ (wr.alloc (.cells #[.int .i64 (i : Int)] 3)).heap.size := HB7.out.size
            go_wp2_with (at_builtin; refine Hid.out ?_)
            refine hidIt ?_
            refine wpList_append_kb rfl _ _ elemI rfl wi.heap.size (.slice b l d) l _ rfl HO7.out _ 1 rfl #[.int .i64 (i : Int)] 3 (heap_alloc_new _ _) rfl (one_of (by rfl)) (by omega) hsz7 ?_
            intro g8 c8 w8 hown8 hg8 hbl8
            have HB8 := hidIt (below_app5 HB7.out hg8 (fun g e => (owns_blk HO7.out g e).1) hsz7)
            have HO8 : Hid (OwnI w8 wi.heap.size (.slice (some ⟨g8, 0, none⟩) (l + 1) c8) (ints (setTo (tb m) (i + 1)))) := by
              have := OwnI.done HTL.out hown8
              show OwnI _ _ _ _
              rw [HST.out]
              unfold ints at this ⊢
              rw [List.map_append]
              exact this
            have HL8 : Hid (l + 1 = (setTo (tb m) (i + 1)).length) := by show _ = _; rw [HST.out, List.length_append, ← HLI.out]; rfl
            clear hown8 hg8 hbl8 HO7 HB7 hsz7 HO HBi hb
            go_wp2_with fail
            go_roundw
            case rel => exact ⟨i + 1, l + 1, some ⟨g8, 0, none⟩, c8, by omega, by go_num, (by first | rfl | trivial), HL8.out, HO8.out, HB8.out⟩
            case measure => simp [intOf]; omega
        · obtain rfl : i = n := by omega
          have hiI : ¬ (i : Int) < (i : Int) := by omega
          have hgr5 := bgrow wr (.cells #[.slice b l d] 25)
          have HO5 : Hid (OwnI (wr.alloc (.cells #[.slice b l d] 25)) w.heap.size (.slice b l d) (setL i (tb m))) := (HO.out.go hgr5).base (B' := w.heap.size) HB.out.size
          have hb5 : Below wi.heap.size wi (wr.alloc (.cells #[.slice b l d] 25)) := HBi.out.trans (Below.mono hgr5 HBi.out.size)
          have HL5 := hidIt (HL.out.go hb5)
          have HB5 := hidIt (HB.out.trans (Below.mono hb5 HB.out.size))
          have hsz5 : w.heap.size ≤ (wr.alloc (.cells #[.slice b l d] 25)).heap.size := HB5.out.size
          obtain ⟨vals, hv1, hv2, hv3⟩ := HL5.out
          have HV1 : Hid (World.ownsRow (wr.alloc (.cells #[.slice b l d] 25)) w.heap.size 25 1 (.slice a m c) m vals) := by
            rw [setsTo_len] at hv1
            exact hv1
          have HV2 := hidIt hv2
          have HV3 := hidIt hv3
          clear hgr5 hb5 hv1 hv2 hv3 HBi HO HL
          go_wp2_with (at_builtin; refine Hid.out ?_)
          refine hidIt ?_
          refine wpList_append_kb rfl (.tmp 29) (.tmp 31) elemLL rfl w.heap.size (.slice a m c) m _ rfl HV1.out _ 1 rfl #[.slice b l d] 25 (heap_alloc_new _ _) rfl (one_of (by rfl)) (by omega) hsz5 ?_
          intro g6 c6 w6 hown6 hg6 hbl6
          have HB6 := hidIt (below_app5 HB5.out hg6 (fun g e => (owns_blk HV1.out g e).1) hsz5)
          have HO6 : Hid (OwnLL w6 w.heap.size (.slice (some ⟨g6, 0, none⟩) (m + 1) c6) (setsTo i (m + 1))) := by
            have := OwnLL.app HL5.out HO5.out vals (by rw [setsTo_len]; exact HV1.out) HV2.out HV3.out (by rw [setsTo_len]; exact hown6) hg6
            show OwnLL _ _ _ _
            rw [setsTo_step]
            exact this
          clear hown6 hg6 hbl6 HV1 HV2 HV3 HO5 HL5 HB5 hsz5
          go_wp2_with fail
          go_roundw
          case rel => exact ⟨m + 1, some ⟨g6, 0, none⟩, c6, by omega, by go_num, (by first | rfl | trivial), HO6.out, HB6.out⟩
          case measure => simp [intOf]; omega
    · obtain rfl : m = K := by omega
      have hmI : ¬ (m : Int) < (m : Int) := by omega
      have HF : Hid (LL wr (.slice a m c) (setsL n)) := by
        have h := HL.out.ll
        show LL _ _ _
        have e : setsTo n m = setsL n := by unfold setsTo setsL; rw [HK.out]
        rwa [e] at h
      go_wp2_with fail
      go_ret
      exact ⟨a, c, rfl, HF.out, HB.out⟩
end Go.Proofs.YtfiaoibfejginaaDoor

namespace Go.Proofs.YtfiaoibfejginaaDoor
set_option linter.unusedVariables false
set_option linter.unusedSimpArgs false
open Go Go.RowKit Go.Sort

def insF (n : Int) : List Int → List Int
  | [] => [n]
  | x :: r => if n < x then n :: x :: r else x :: insF n r
theorem insF_len (n : Int) : ∀ l : List Int, (insF n l).length = l.length + 1
  | [] => rfl
  | x :: r => by
    unfold insF
    split
    · rfl
    · rw [List.length_cons, insF_len n r, List.length_cons]
def restF (n : Int) (done : Bool) (l : List Int) : List Int := if done = true then l else insF n l
theorem ints_own {w : World} {B k c : Nat} {a : Option Addr} {zs : List Int} {z : Int} (h : OwnI w B (.slice a k c) zs) (hl : zs.length = k) : World.ownsRow (w.alloc (.cells #[.int .i64 z] 3)) B 3 1 (.slice a k c) k (zs.map (Value.int .i64)) := by
  have h2 := h.go (bgrow w (.cells #[.int .i64 z] 3))
  unfold OwnI at h2
  rwa [hl] at h2
theorem ints_done {w : World} {B k : Nat} {v : Value} {zs : List Int} {z : Int} (hl : zs.length = k) (h : World.ownsRow w B 3 1 v (k + 1) (zs.map (Value.int .i64) ++ [.int .i64 z])) : OwnI w B v (zs ++ [z]) := by
  show World.ownsRow _ _ _ _ _ _ _
  rw [List.length_append, hl, List.map_append]
  exact h

set_option maxRecDepth 100000 in
set_option maxHeartbeats 2000000 in
theorem insert_any (v : Value) (xs : List Int) (n : Int) (w : World) (h : IL w v xs) (hn : xs.length ≤ 1000) :
    Calls Tryd.prog 30 #[v, .int .i64 n] w fun e w' => ∃ (a : Option Addr) (c : Nat), e = .returned (.slice a (xs.length + 1) c) ∧ OwnI w' w.heap.size (.slice a (xs.length + 1) c) (insF n xs) ∧ Below w.heap.size w w' := by
  obtain ⟨a1, c1, rfl, k1⟩ := h.ic
  have K1 := hidIt k1
  clear k1 h
  obtain ⟨M, hM⟩ : ∃ M, M = xs.length := ⟨_, rfl⟩
  have HX := hidIt hM
  rw [← hM] at hn ⊢
  clear hM
  go_enter Tryd.func30, Tryd.ntmps30
  go_wp2_with fail
  go_loopw [5, 6, 8, 11] (fun v5 v6 _ i wr => ∃ (k L : Nat) (d : Bool) (zs : List Int) (a : Option Addr) (c : Nat), k ≤ M ∧ L ≤ k + 1 ∧ Hid (L = k + if d = true then 1 else 0) ∧ v5 = .slice a L c ∧ v6 = .bool d ∧ i = .int .i64 k ∧ Hid (zs.length = L) ∧ Hid (zs ++ restF n d (xs.drop k) = insF n xs) ∧ Hid (OwnI wr w.heap.size (.slice a L c) zs) ∧ Hid (Below w.heap.size w wr)) (fun _ _ _ i _ => M - (intOf i).toNat)
  case atStart => exact ⟨0, 0, false, [], none, 0, Nat.zero_le _, Nat.zero_le _, (rfl : (0 : Nat) = 0 + if false = true then 1 else 0), rfl, rfl, (by first | rfl | trivial), (rfl : ([] : List Int).length = 0), (rfl : _ = _), OwnI.nil _ _, Below.refl _ _⟩
  case round =>
    obtain ⟨k, L, d, zs, a, c, hk, hL, HLK, rfl, rfl, rfl, HZ, HR, HO, HB⟩ := hrel
    have hkI0 : (0 : Int) ≤ (k : Int) := by omega
    by_cases hlt : k < M
    · have hkI : (k : Int) < (M : Int) := by omega
      have hkx : k < xs.length := by rw [← HX.out]; exact hlt
      obtain ⟨b1, o1, rfl, l1, hc1⟩ := (K1.out.go HB.out).at_ hkx
      have p0 := hc1 k hkx
      have HDR : Hid (xs.drop k = xs[k] :: xs.drop (k + 1)) := List.drop_eq_getElem_cons hkx
      clear hc1
      generalize xs[k] = x at *
      rw [HDR.out] at HR
      clear hkx
      by_cases hs : d = false ∧ n < x
      · obtain ⟨rfl, hnx⟩ := hs
        have hLk : L ≤ k := Nat.le_of_eq HLK.out
        have hgt : x > n := hnx
        have HR2 : Hid (((zs ++ [n]) ++ [x]) ++ restF n true (xs.drop (k + 1)) = insF n xs) := by
          have := HR.out
          rw [show restF n false (x :: xs.drop (k + 1)) = n :: x :: xs.drop (k + 1) by unfold restF; rw [if_neg (by decide), insF, if_pos hnx]] at this
          show _ = _
          rw [show restF n true (xs.drop (k + 1)) = xs.drop (k + 1) from if_pos rfl, ← this]
          simp
        have HO7 := hidIt (ints_own (z := n) HO.out HZ.out)
        have HB7 := hidIt (HB.out.trans (Below.mono (bgrow wr (.cells #[.int .i64 n] 3)) HB.out.size))
        have hsz7 : w.heap.size ≤ (wr.alloc (.cells #[.int .i64 n] 3)).heap.size := HB7.out.size
        have lb2 := Nat.lt_of_lt_of_le l1 (bgrow wr (.cells #[.int .i64 n] 3)).size
        clear HR HDR
        go_wp2_with (at_builtin; refine Hid.out ?_)
        refine hidIt ?_
        refine wpList_append_kb rfl (.tmp 22) (.tmp 24) elemI rfl w.heap.size (.slice a L c) L _ rfl HO7.out _ 1 rfl #[.int .i64 n] 3 (heap_alloc_new _ _) rfl (one_of (by rfl)) (by omega) hsz7 ?_
        intro g8 c8 w8 hown8 hg8 hbl8
        have HB8 := hidIt (below_app5 HB7.out hg8 (fun g e => (owns_blk HO7.out g e).1) hsz7)
        have HO8 := hidIt (ints_done HZ.out hown8)
        have HZ8 : Hid ((zs ++ [n]).length = L + 1) := by show _ = _; rw [List.length_append, HZ.out]; rfl
        clear hown8 hg8 hbl8 HO7 HB7 hsz7 lb2 HO HB p0 l1
        generalize zs ++ [n] = ys at *
        have HO9 := hidIt (ints_own (z := x) HO8.out HZ8.out)
        have HB9 := hidIt (HB8.out.trans (Below.mono (bgrow w8 (.cells #[.int .i64 x] 3)) HB8.out.size))
        have hsz9 : w.heap.size ≤ (w8.alloc (.cells #[.int .i64 x] 3)).heap.size := HB9.out.size
        go_wp2_with (at_builtin; refine Hid.out ?_)
        refine hidIt ?_
        refine wpList_append_kb rfl (.tmp 26) (.tmp 28) elemI rfl w.heap.size (.slice (some ⟨g8, 0, none⟩) (L + 1) c8) (L + 1) _ rfl HO9.out _ 1 rfl #[.int .i64 x] 3 (heap_alloc_new _ _) rfl (one_of (by rfl)) (by omega) hsz9 ?_
        intro g10 c10 w10 hown10 hg10 hbl10
        have HB10 := hidIt (below_app5 HB9.out hg10 (fun g e => (owns_blk HO9.out g e).1) hsz9)
        have HO10 := hidIt (ints_done HZ8.out hown10)
        have HZ10 : Hid ((ys ++ [x]).length = L + 1 + 1) := by show _ = _; rw [List.length_append, HZ8.out]; rfl
        clear hown10 hg10 hbl10 HO9 HB9 hsz9 HO8 HB8
        go_wp2_with fail
        go_roundw
        case rel => exact ⟨k + 1, L + 1 + 1, true, ys ++ [x], some ⟨g10, 0, none⟩, c10, by omega, by omega, (by have h14 : L = k + 0 := HLK.out; show L + 1 + 1 = k + 1 + 1; omega), rfl, rfl, by go_num, HZ10, HR2, HO10, HB10⟩
        case measure => simp [intOf]; omega
      · have HR2 : Hid ((zs ++ [x]) ++ restF n d (xs.drop (k + 1)) = insF n xs) := by
          have := HR.out
          show _ = _
          rw [← this, List.append_assoc]
          congr 1
          cases d
          · unfold restF
            rw [if_neg (by decide), if_neg (by decide)]
            show _ = insF n (x :: xs.drop (k + 1))
            rw [insF, if_neg (fun h => hs ⟨rfl, h⟩)]
            rfl
          · rfl
        have HO9 := hidIt (ints_own (z := x) HO.out HZ.out)
        have HB9 := hidIt (HB.out.trans (Below.mono (bgrow wr (.cells #[.int .i64 x] 3)) HB.out.size))
        have hsz9 : w.heap.size ≤ (wr.alloc (.cells #[.int .i64 x] 3)).heap.size := HB9.out.size
        have HZ10 : Hid ((zs ++ [x]).length = L + 1) := by show _ = _; rw [List.length_append, HZ.out]; rfl
        clear HR HDR
        cases d
        · have hle : ¬ x > n := fun h => hs ⟨rfl, h⟩
          have hLk : L ≤ k := Nat.le_of_eq HLK.out
          clear hs
          go_wp2_with (at_builtin; refine Hid.out ?_)
          refine hidIt ?_
          refine wpList_append_kb rfl (.tmp 26) (.tmp 28) elemI rfl w.heap.size (.slice a L c) L _ rfl HO9.out _ 1 rfl #[.int .i64 x] 3 (heap_alloc_new _ _) rfl (one_of (by rfl)) (by omega) hsz9 ?_
          intro g10 c10 w10 hown10 hg10 hbl10
          have HB10 := hidIt (below_app5 HB9.out hg10 (fun g e => (owns_blk HO9.out g e).1) hsz9)
          have HO10 := hidIt (ints_done HZ.out hown10)
          clear hown10 hg10 hbl10 HO9 HB9 hsz9
          go_wp2_with fail
          go_roundw
          case rel => exact ⟨k + 1, L + 1, false, zs ++ [x], some ⟨g10, 0, none⟩, c10, by omega, by omega, (by have h14 : L = k + 0 := HLK.out; show L + 1 = k + 1 + 0; omega), rfl, rfl, by go_num, HZ10, HR2, HO10, HB10⟩
          case measure => simp [intOf]; omega
        · have hLk : L ≤ k + 1 := Nat.le_of_eq HLK.out
          clear hs
          go_wp2_with (at_builtin; refine Hid.out ?_)
          refine hidIt ?_
          refine wpList_append_kb rfl (.tmp 26) (.tmp 28) elemI rfl w.heap.size (.slice a L c) L _ rfl HO9.out _ 1 rfl #[.int .i64 x] 3 (heap_alloc_new _ _) rfl (one_of (by rfl)) (by omega) hsz9 ?_
          intro g10 c10 w10 hown10 hg10 hbl10
          have HB10 := hidIt (below_app5 HB9.out hg10 (fun g e => (owns_blk HO9.out g e).1) hsz9)
          have HO10 := hidIt (ints_done HZ.out hown10)
          clear hown10 hg10 hbl10 HO9 HB9 hsz9
          go_wp2_with fail
          go_roundw
          case rel => exact ⟨k + 1, L + 1, true, zs ++ [x], some ⟨g10, 0, none⟩, c10, by omega, by omega, (by have h14 : L = k + 1 := HLK.out; show L + 1 = k + 1 + 1; omega), rfl, rfl, by go_num, HZ10, HR2, HO10, HB10⟩
          case measure => simp [intOf]; omega
    · have hkI : ¬ (k : Int) < (M : Int) := by omega
      have hkM : k = xs.length := by have := HX.out; omega
      have HE : Hid (zs ++ restF n d [] = insF n xs) := by
        have := HR.out
        rwa [hkM, List.drop_length] at this
      clear hkM
      cases d
      · have HE2 : Hid (zs ++ [n] = insF n xs) := HE.out
        have HLM : Hid (L = M) := by
          have := congrArg List.length HE2.out
          rw [List.length_append, insF_len, HZ.out, ← HX.out] at this
          show L = M
          simpa using this
        have HO9 := hidIt (ints_own (z := n) HO.out HZ.out)
        have HB9 := hidIt (HB.out.trans (Below.mono (bgrow wr (.cells #[.int .i64 n] 3)) HB.out.size))
        have hsz9 : w.heap.size ≤ (wr.alloc (.cells #[.int .i64 n] 3)).heap.size := HB9.out.size
        go_wp2_with (at_builtin; refine Hid.out ?_)
        refine hidIt ?_
        refine wpList_append_kb rfl (.tmp 33) (.tmp 35) elemI rfl w.heap.size (.slice a L c) L _ rfl HO9.out _ 1 rfl #[.int .i64 n] 3 (heap_alloc_new _ _) rfl (one_of (by rfl)) (by omega) hsz9 ?_
        intro g10 c10 w10 hown10 hg10 hbl10
        have HB10 := hidIt (below_app5 HB9.out hg10 (fun g e => (owns_blk HO9.out g e).1) hsz9)
        have HO10 := hidIt (ints_done HZ.out hown10)
        go_wp2_with fail
        go_ret
        rw [HE2.out, HLM.out] at HO10
        exact ⟨_, _, by rw [HLM.out]; rfl, HO10.out, HB10.out⟩
      · have HE2 : Hid (zs = insF n xs) := by
          have := HE.out
          rwa [show restF n true [] = [] from rfl, List.append_nil] at this
        have HLM : Hid (L = M + 1) := by
          have := congrArg List.length HE2.out
          rw [insF_len, HZ.out, ← HX.out] at this
          exact this
        go_wp2_with fail
        go_ret
        rw [HE2.out, HLM.out] at HO
        exact ⟨_, _, by rw [HLM.out]; rfl, HO.out, HB.out⟩
end Go.Proofs.YtfiaoibfejginaaDoor

namespace Go.Proofs.YtfiaoibfejginaaDoor
set_option linter.unusedVariables false
set_option linter.unusedSimpArgs false
open Go Go.RowKit Go.Sort

theorem mem_insF {n y : Int} : ∀ {l : List Int}, y ∈ insF n l ↔ y = n ∨ y ∈ l
  | [] => by simp [insF]
  | x :: r => by
    unfold insF
    split
    · simp
    · rw [List.mem_cons, mem_insF, List.mem_cons]
      constructor
      · rintro (h | h | h)
        · exact .inr (.inl h)
        · exact .inl h
        · exact .inr (.inr h)
      · rintro (h | h | h)
        · exact .inr (.inl h)
        · exact .inl h
        · exact .inr (.inr h)
theorem memB_ins (l : List Int) (k : Nat) : memB (insF (k : Int) l) = addX (memB l) k := by
  funext i
  unfold memB addX
  rw [Bool.eq_iff_iff, decide_eq_true_eq, mem_insF, Bool.or_eq_true, decide_eq_true_eq, decide_eq_true_eq]
  constructor
  · rintro (h | h)
    · exact .inr (by omega)
    · exact .inl h
  · rintro (h | h)
    · exact .inr h
    · exact .inl (by omega)
/-- There is a naive set. -/
def greedy (ps : List (Int × Int)) : Nat → Nat → Bool
  | 0 => fun _ => false
  | n + 1 => if cfX ps (addX (greedy ps n) n) = true then addX (greedy ps n) n else greedy ps n
theorem greedy_up (ps : List (Int × Int)) : ∀ (n m : Nat) (i : Nat), greedy ps n i = true → greedy ps (n + m) i = true
  | _, 0, _, h => h
  | n, m + 1, i, h => by
    have ih := greedy_up ps n m i h
    show (if cfX ps (addX (greedy ps (n + m)) (n + m)) = true then addX (greedy ps (n + m)) (n + m) else greedy ps (n + m)) i = true
    split
    · show (greedy ps (n + m) i || _) = true
      rw [ih]; rfl
    · exact ih
theorem greedy_lt (ps : List (Int × Int)) : ∀ (n i : Nat), greedy ps n i = true → i < n
  | 0, _, h => by cases h
  | n + 1, i, h => by
    have ih := greedy_lt ps n i
    have h' : (if cfX ps (addX (greedy ps n) n) = true then addX (greedy ps n) n else greedy ps n) i = true := h
    split at h'
    · have h2 : greedy ps n i = true ∨ i = n := by simpa [addX] using h'
      rcases h2 with h2 | h2
      · have := ih h2; omega
      · omega
    · have := ih h'; omega
theorem naive_ex {N : Nat} {ps : List (Int × Int)} (hok : GOk (N : Int) ps) : ∃ l : List Int, setB N l = true ∧ naiveX N ps (memB l) := by
  have hcf : ∀ n, cfX ps (greedy ps n) = true := fun n => by
    induction n with
    | zero => exact (cfX_iff hok.ix).2 fun _ _ _ h => by cases h
    | succ n ih =>
      show cfX ps (if cfX ps (addX (greedy ps n) n) = true then addX (greedy ps n) n else greedy ps n) = true
      split
      · assumption
      · exact ih
  have e : memB (setL N (greedy ps N)) = greedy ps N := by
    funext i
    rw [memB_setL]
    cases hi : greedy ps N i
    · rw [Bool.and_false]
    · rw [decide_eq_true (greedy_lt ps N i hi)]; rfl
  refine ⟨setL N (greedy ps N), setB_setL _ _, ?_⟩
  rw [e]
  refine ⟨hcf N, fun k hk hX => Bool.eq_false_iff.2 fun hc => ?_⟩
  have h1 : greedy ps (k + 1) k = true := by
    show (if cfX ps (addX (greedy ps k) k) = true then addX (greedy ps k) k else greedy ps k) k = true
    rw [if_pos]
    · simp [addX]
    · refine (cfX_iff hok.ix).2 fun a b hab ha hb => (cfX_iff hok.ix).1 hc a b hab ?_ ?_
      · have ha' : greedy ps k a = true ∨ a = k := by simpa [addX] using ha
        rcases ha' with h | h
        · have := greedy_up ps k (N - k) a h
          rw [show k + (N - k) = N by omega] at this
          simp [addX, this]
        · simp [addX, h]
      · have hb' : greedy ps k b = true ∨ b = k := by simpa [addX] using hb
        rcases hb' with h | h
        · have := greedy_up ps k (N - k) b h
          rw [show k + (N - k) = N by omega] at this
          simp [addX, this]
        · simp [addX, h]
  have := greedy_up ps (k + 1) (N - (k + 1)) k h1
  rw [show k + 1 + (N - (k + 1)) = N by omega] at this
  rw [this] at hX; cases hX
theorem LL.cut {w : World} {a : Option Addr} {c n : Nat} {zss : List (List Int)} (h : LL w (.slice a n c) zss) : n = zss.length ∧ ∀ i (h : i < zss.length), ∃ b off ua un uc, a = some ⟨b, off, none⟩ ∧ b < w.heap.size ∧ w.cell? ⟨b, off + i, none⟩ = some (.slice ua un uc) ∧ IL w (.slice ua un uc) zss[i] := by
  obtain ⟨a', c', he, hf⟩ := h.lc
  injection he with e1 e2 e3
  subst e1 e2 e3
  exact ⟨rfl, hf⟩
/-- What a search hands on: some lists in order. -/
theorem comp_out (N : Nat) (v : Value) (ps : List (Int × Int)) (w : World) (h : PairsAt w v ps) (hok : GOk (N : Int) ps) (hl : ps.length ≤ 1000) (hT : Tab w) :
    Calls Tryd.prog 12 #[.agg #[.int .i64 (N : Int), v]] w fun e w' => Below w.heap.size w w' ∧ ∃ (ls : List (List Int)) (a : Option Addr) (l c : Nat) (k : Int), e = .returned (.tuple #[.slice a l c, .int .i64 k]) ∧ LL w' (.slice a l c) ls ∧ l = ls.length ∧ l ≤ 200 ∧ (ls.Pairwise fun x y => cmpF x y < 0) ∧ (∀ x ∈ ls, compB N ps x = true) ∧ (k = 2 ∨ (k = 0 ∧ 0 < l)) :=
  (sComplete_any (N : Int) v ps w h (by omega) hT).mono fun e w' ⟨hb, hr⟩ => by
    refine ⟨hb, ?_⟩
    rcases hr with ⟨h0, -⟩ | ⟨-, ⟨va, ls, he, hc, hll, hs⟩ | ⟨he, -⟩⟩
    · exact absurd (valE_of hok) h0
    · rw [Int.toNat_natCast] at hc
      obtain ⟨aa, ca, rfl, -⟩ := hs.ll.form
      obtain ⟨lab, rk, hsp⟩ := gspec_ex hok
      have hm : lab ∈ ls := (hc.mem lab).2 ((comp_iff hok.ix).2 hsp.complete)
      exact ⟨ls, aa, _, ca, 0, he, hs.ll, rfl, hll, hc.up, fun x hx => (hc.mem x).1 hx, .inr ⟨rfl, List.length_pos_of_mem hm⟩⟩
    · exact ⟨[], none, 0, 0, 2, he, .inl ⟨rfl, rfl⟩, rfl, by omega, List.Pairwise.nil, (fun x hx => nomatch hx), .inl rfl⟩
theorem naive_out (N : Nat) (v : Value) (ps : List (Int × Int)) (w : World) (h : PairsAt w v ps) (hok : GOk (N : Int) ps) (hl : ps.length ≤ 1000) (hT : Tab w) :
    Calls Tryd.prog 14 #[.agg #[.int .i64 (N : Int), v]] w fun e w' => Below w.heap.size w w' ∧ ∃ (ls : List (List Int)) (a : Option Addr) (l c : Nat) (k : Int), e = .returned (.tuple #[.slice a l c, .int .i64 k]) ∧ LL w' (.slice a l c) ls ∧ l = ls.length ∧ l ≤ 200 ∧ (ls.Pairwise fun x y => cmpF x y < 0) ∧ (∀ x ∈ ls, setB N x = true ∧ naiveX N ps (memB x)) ∧ (k = 2 ∨ (k = 0 ∧ 0 < l)) :=
  (sNaive_any (N : Int) v ps w h (by omega) hT).mono fun e w' ⟨hb, hr⟩ => by
    refine ⟨hb, ?_⟩
    rcases hr with ⟨h0, -⟩ | ⟨-, ⟨va, ls, he, hc, hll, hs⟩ | ⟨he, -⟩⟩
    · exact absurd (valE_of hok) h0
    · rw [Int.toNat_natCast] at hc
      obtain ⟨aa, ca, rfl, -⟩ := hs.ll.form
      obtain ⟨x, hx⟩ := naive_ex hok
      have hm : x ∈ ls := (hc.mem x).2 hx
      exact ⟨ls, aa, _, ca, 0, he, hs.ll, rfl, hll, hc.up, fun x hx => (hc.mem x).1 hx, .inr ⟨rfl, List.length_pos_of_mem hm⟩⟩
    · exact ⟨[], none, 0, 0, 2, he, .inl ⟨rfl, rfl⟩, rfl, by omega, List.Pairwise.nil, (fun x hx => nomatch hx), .inl rfl⟩

set_option maxRecDepth 100000 in
set_option maxHeartbeats 4000000 in
theorem large_walk (lv : Value) (zs : List Int) (w : World) (hz : IntsAt w w.heap.size lv zs) (hT : Tab w) :
    Calls Tryd.prog 8 #[lv] w fun e w' => e = .returned (.bool true) ∧ Below w.heap.size w w' := by
  have HT := hidIt hT
  have HZ := hidIt hz
  clear hz hT
  go_enter Tryd.func8, Tryd.ntmps8
  go_wp2_with fail
  refine (new_any lv zs w.heap.size w HZ.out (Nat.le_refl _)).mono ?_
  rintro e w1 ⟨zs', rfl, hs1, o1, rfl⟩
  have HS1 := hidIt hs1
  have HB1 := hidIt (bgrow w o1)
  have hsz1 : w.heap.size < (w.alloc o1).heap.size := hs1.lt
  clear hs1
  generalize w.alloc o1 = w1 at *
  go_wp2_with fail
  refine (kGraph_any 14 (by decide) _ _ _ _ w1 HS1.out).mono ?_
  rintro e w2 ⟨N, ps, ga, gc, k2, rfl, hN, hok, hpl, hop, hs2, hg2⟩
  have HOK := hidIt hok
  have HPS := hidIt hpl
  have hgr := bgrow w2 (.cells #[.int .i64 (N : Int), .slice ga ps.length gc] 24)
  have HB2 := hidIt (below_read13 HB1.out hg2 (Nat.le_of_lt hsz1))
  have HW3 : Hid (LW w w2.heap.size N ga gc ps (w2.alloc (.cells #[.int .i64 (N : Int), .slice ga ps.length gc] 24))) :=
    ⟨heap_alloc_new w2 _, (hop.below hgr).lits, (HT.out.go HB2.out).go hgr, HB2.out.trans (Below.mono hgr HB2.out.size)⟩
  clear hok hpl hop hs2 hg2 hgr HB2 HS1 HB1
  go_upto_region 3 with (fail)
  generalize (w2.alloc (.cells #[.int .i64 (N : Int), .slice ga ps.length gc] 24)) = w3 at *
  generalize w2.heap.size = G at *
  have x0 := HW3.out.c0
  have x1 := HW3.out.c1
  have lx := HW3.out.l
  go_wp2_with fail
  refine (comp_out N _ ps _ HW3.out.p HOK.out HPS.out HW3.out.t).mono ?_
  rintro e w4 ⟨hb4, ls, a4, l4, c4, k4, rfl, hl4, hll4, hle4, hup4, hco4, hk4⟩
  have HW4 := hidIt (HW3.out.go hb4)
  have HL4 := hidIt hl4
  have HE4 := hidIt hll4
  have HU4 := hidIt hup4
  have HC4 := hidIt hco4
  have HK4 := hidIt hk4
  clear x0 x1 lx hb4 hl4 hll4 hup4 hco4 hk4 HW3
  have x0 := HW4.out.c0
  have x1 := HW4.out.c1
  have lx := HW4.out.l
  go_wp2_with fail
  refine (naive_out N _ ps _ HW4.out.p HOK.out HPS.out HW4.out.t).mono ?_
  rintro e w5 ⟨hb5, ns, a5, l5, c5, k5, rfl, hl5, hll5, hle5, hup5, hco5, hk5⟩
  have HW5 := hidIt (HW4.out.go hb5)
  have HL5 := hidIt (HL4.out.below hb5)
  have HN5 := hidIt hl5
  have HE5 := hidIt hll5
  have HU5 := hidIt hup5
  have HC5 := hidIt hco5
  have HK5 := hidIt hk5
  clear x0 x1 lx hb5 hl5 hll5 hup5 hco5 hk5 HW4 HL4
  go_upto_region 5 with (fail)
  go_cut [69] from 14 (fun v69 wx => v69 = .bool false ∧ wx = w5)
  case first =>
    have hn4 : ¬ (l4 : Int) > 200 := by omega
    have hn5 : ¬ (l5 : Int) > 200 := by omega
    rcases HK4.out with rfl | ⟨rfl, h4⟩ <;> rcases HK5.out with rfl | ⟨rfl, h5⟩
    · go_wp2_with fail
      go_meet
      exact ⟨by simp [hn4, hn5], rfl⟩
    · have hz5 : ((l5 : Int) == 0) = false := by simp only [beq_eq_false_iff_ne, ne_eq]; omega
      go_wp2_with fail
      go_meet
      exact ⟨by simp [hn4, hn5], rfl⟩
    · have hz4 : ((l4 : Int) == 0) = false := by simp only [beq_eq_false_iff_ne, ne_eq]; omega
      go_wp2_with fail
      go_meet
      exact ⟨by simp [hn4, hn5], rfl⟩
    · have hz4 : ((l4 : Int) == 0) = false := by simp only [beq_eq_false_iff_ne, ne_eq]; omega
      have hz5 : ((l5 : Int) == 0) = false := by simp only [beq_eq_false_iff_ne, ne_eq]; omega
      go_wp2_with fail
      go_meet
      exact ⟨by simp [hn4, hn5], rfl⟩
  case rest =>
    obtain ⟨rfl, rfl⟩ := hcut
    have HF5 := hidIt HL5.out.cut.2
    have HF6 := hidIt HN5.out.cut.2
    clear HK4 HK5 HL5 HN5
    go_wp2_with fail
    go_loopw [9, 10, 72] (fun _ _ i wr => ∃ k : Nat, k ≤ l4 ∧ i = .int .i64 k ∧ Hid (Below wc.heap.size wc wr)) (fun _ _ i _ => l4 - (intOf i).toNat)
    case atStart => exact ⟨0, Nat.zero_le _, rfl, Below.refl _ _⟩
    case round =>
      obtain ⟨k, hk, rfl, HBr⟩ := hrel
      have hk0 : (0 : Int) ≤ (k : Int) := by omega
      have HWr := hidIt (HW5.out.go HBr.out)
      have x0 := HWr.out.c0
      have x1 := HWr.out.c1
      have lx := HWr.out.l
      by_cases hlt : k < l4
      · have hkI : (k : Int) < (l4 : Int) := by omega
        have hkl : k < ls.length := by have := HE4.out; omega
        obtain ⟨b, off, ua, un, uc, rfl, lb, cc, hi⟩ := HF5.out k hkl
        have cy := (Below.cell (p := ⟨b, off + k, none⟩) HBr.out lb).trans cc
        have lb2 := Nat.lt_of_lt_of_le lb HBr.out.size
        have HY := hidIt (hi.below HBr.out)
        have HCB := hidIt (HC4.out _ (List.getElem_mem hkl))
        have HYL : Hid (ls[k].length = N) := ((comp_iff HOK.out.ix).1 HCB.out).len
        have HUK : Hid (∀ j (hj : j < ls.length), k = j + 1 → cmpF ls[j] ls[k] < 0 ∧ ls[j].length = N) := fun j hj e => ⟨List.pairwise_iff_getElem.1 HU4.out j k hj hkl (by omega), ((comp_iff HOK.out.ix).1 (HC4.out _ (List.getElem_mem hj))).len⟩
        clear cc hi
        generalize ls[k] = y at *
        go_wp2_with fail
        refine (lIsComplete_any N _ _ ps y _ HWr.out.p HOK.out HPS.out HY.out (by have := HYL.out; omega)).mono ?_
        rw [show (validB N y && decide ((illL N ps y).length = 0)) = true from HCB.out]
        rintro e w6 ⟨rfl, hb6⟩
        have HB6 := hidIt (HBr.out.trans (Below.mono hb6 HBr.out.size))
        have HY6 := hidIt (HY.out.below hb6)
        have lb6 := Nat.lt_of_lt_of_le lb HB6.out.size
        clear x0 x1 lx cy lb2 hb6 HWr HBr HY
        by_cases hk1 : 0 < k
        · obtain ⟨j, rfl⟩ : ∃ j, k = j + 1 := ⟨k - 1, by omega⟩
          have hj1 : j < ls.length := by omega
          obtain ⟨hcm, hjl⟩ := HUK.out j hj1 rfl
          obtain ⟨b', off', ua', un', uc', he, lb', cc', hi'⟩ := HF5.out j hj1
          injection he with he
          injection he with he1 he2
          subst he1 he2
          have cj := (Below.cell (p := ⟨b, off + j, none⟩) HB6.out lb').trans cc'
          have HJ := hidIt (hi'.below HB6.out)
          have HCM := hidIt hcm
          have HJL := hidIt hjl
          have hgt : (0 : Int) < ((j + 1 : Nat) : Int) := by omega
          have hsub : ((j + 1 : Nat) : Int) - 1 = (j : Int) := by omega
          have hj0 : (0 : Int) ≤ (j : Int) := by omega
          have hjI : (j : Int) < (l4 : Int) := by omega
          have hsubw : IntKind.i64.wrap (((j + 1 : Nat) : Int) - 1) = (j : Int) := by rw [hsub]; exact IntWalk.i64_in _ (by omega)
          clear cc' hi' hcm hjl hk1 lb lb'
          generalize ls[j] = z at *
          go_wp2_with fail
          refine (lCompare_any _ _ z y _ HJ.out HY6.out (by have := HJL.out; omega) (by have := HYL.out; omega)).mono ?_
          rintro e w7 ⟨rfl, hb7⟩
          have HB7 := hidIt (HB6.out.trans (Below.mono hb7 HB6.out.size))
          have hcmv := HCM.out
          have hnge : ¬ cmpF z y ≥ 0 := by omega
          go_wp2_with fail
          go_roundw
          case rel => exact ⟨j + 1 + 1, by omega, by go_num, HB7⟩
          case measure => simp [intOf]; omega
        · obtain rfl : k = 0 := by omega
          go_wp2_with fail
          go_roundw
          case rel => exact ⟨0 + 1, by omega, by go_num, HB6⟩
          case measure => simp [intOf]; omega
      · have hkI : ¬ (k : Int) < (l4 : Int) := by omega
        have HBA := hidIt HBr.out
        clear x0 x1 lx HWr HBr hlt hk hk0
        have HW7 := hidIt (HW5.out.go HBA.out)
        have HF7 : Hid (∀ i (h : i < ns.length), ∃ (b off : Nat) (ua : Option Addr) (un uc : Nat), a5 = some ⟨b, off, none⟩ ∧ b < wr.heap.size ∧ wr.cell? ⟨b, off + i, none⟩ = some (.slice ua un uc) ∧ IL wr (.slice ua un uc) ns[i]) := fun i h => by
          obtain ⟨b, off, ua, un, uc, he, hb, hc, hi⟩ := HF6.out i h
          exact ⟨b, off, ua, un, uc, he, Nat.lt_of_lt_of_le hb HBA.out.size, (Below.cell (p := ⟨b, off + i, none⟩) HBA.out hb).trans hc, hi.below HBA.out⟩
        clear HF6 HF5 HW5 HBA HU4 HC4 HE4
        generalize wr = wA at *
        go_wp2_with fail
        go_loopw [11, 12, 13, 98] (fun _ _ _ i wr => ∃ k : Nat, k ≤ l5 ∧ i = .int .i64 k ∧ Hid (Below wA.heap.size wA wr)) (fun _ _ _ i _ => l5 - (intOf i).toNat)
        case atStart => exact ⟨0, Nat.zero_le _, rfl, Below.refl _ _⟩
        case round =>
          obtain ⟨k, hk, rfl, HBr⟩ := hrel
          have hk0 : (0 : Int) ≤ (k : Int) := by omega
          have HWr := hidIt (HW7.out.go HBr.out)
          have x0 := HWr.out.c0
          have x1 := HWr.out.c1
          have lx := HWr.out.l
          by_cases hlt : k < l5
          · have hkI : (k : Int) < (l5 : Int) := by omega
            have hkl : k < ns.length := by have := HE5.out; omega
            obtain ⟨b, off, ua, un, uc, rfl, lb, cc, hi⟩ := HF7.out k hkl
            have cy := (Below.cell (p := ⟨b, off + k, none⟩) HBr.out lb).trans cc
            have lb2 := Nat.lt_of_lt_of_le lb HBr.out.size
            have HY := hidIt (hi.below HBr.out)
            have HYA0 := hi
            have HNX := hidIt (HC5.out _ (List.getElem_mem hkl))
            have HYL : Hid (ns[k].length ≤ N) := setB_len HNX.out.1
            have HUK : Hid (∀ j (hj : j < ns.length), k = j + 1 → cmpF ns[j] ns[k] < 0 ∧ ns[j].length ≤ N) := fun j hj e => ⟨List.pairwise_iff_getElem.1 HU5.out j k hj hkl (by omega), setB_len (HC5.out _ (List.getElem_mem hj)).1⟩
            obtain ⟨ua2, uc2, hev, -⟩ := hi.ic
            injection hev with hev1 hev2 hev3
            clear hev1 hev3
            subst hev2
            have HYA := hidIt HYA0
            clear cc hi HYA0
            generalize ns[k] = y at *
            go_upto_region 16 with (fail)
            go_cut [11, 12, 120] from 99 to 138 (fun v11 v12 v120 wx => v11 = .int .i64 k ∧ v12 = .slice ua y.length uc ∧ v120 = .bool false ∧ Hid (Below wA.heap.size wA wx))
            case first =>
              go_wp2_with fail
              refine (raConflictFree_any N _ _ ps y _ HWr.out.p HOK.out (by have := HPS.out; omega) HY.out (by have := HYL.out; omega)).mono ?_
              rw [HNX.out.1, HNX.out.2.1, Bool.true_and]
              rintro e w6 ⟨rfl, hb6⟩
              have HB6 := hidIt (HBr.out.trans (Below.mono hb6 HBr.out.size))
              have HY6 := hidIt (HY.out.below hb6)
              have lb6 := Nat.lt_of_lt_of_le lb HB6.out.size
              clear x0 x1 lx cy lb2 hb6 HWr HBr HY
              by_cases hk1 : 0 < k
              · obtain ⟨j, rfl⟩ : ∃ j, k = j + 1 := ⟨k - 1, by omega⟩
                have hj1 : j < ns.length := by omega
                obtain ⟨hcm, hjl⟩ := HUK.out j hj1 rfl
                obtain ⟨b', off', ua', un', uc', he, lb', cc', hi'⟩ := HF7.out j hj1
                injection he with he
                injection he with he1 he2
                subst he1 he2
                have cj := (Below.cell (p := ⟨b, off + j, none⟩) HB6.out lb').trans cc'
                have HJ := hidIt (hi'.below HB6.out)
                have HCM := hidIt hcm
                have HJL := hidIt hjl
                have hgt : (0 : Int) < ((j + 1 : Nat) : Int) := by omega
                have hsub : ((j + 1 : Nat) : Int) - 1 = (j : Int) := by omega
                have hj0 : (0 : Int) ≤ (j : Int) := by omega
                have hjI : (j : Int) < (l5 : Int) := by omega
                clear cc' hi' hcm hjl hk1 lb lb'
                generalize ns[j] = z at *
                go_wp2_with fail
                refine (lCompare_any _ _ z y _ HJ.out HY6.out (by have := HJL.out; omega) (by have := HYL.out; omega)).mono ?_
                rintro e w7 ⟨rfl, hb7⟩
                have HB7 := hidIt (HB6.out.trans (Below.mono hb7 HB6.out.size))
                have hcmv := HCM.out
                have hnge : ¬ cmpF z y ≥ 0 := by omega
                go_wp2_with fail
                go_meet
                exact ⟨rfl, rfl, by simp [hnge], HB7⟩
              · obtain rfl : k = 0 := by omega
                go_wp2_with fail
                go_meet
                exact ⟨rfl, rfl, rfl, HB6⟩
            case rest =>
              obtain ⟨rfl, rfl, rfl, HBc⟩ := hcut
              have HYW : Hid (IL wA (.slice ua y.length uc) y) := HYA.out
              clear x0 x1 lx cy lb2 HWr HBr HY HUK
              generalize wc = wC at *
              go_wp2_with fail
              go_loopw [13] (fun v13 wr => ∃ q : Nat, q ≤ N ∧ v13 = .int .i64 q ∧ Hid (Below wA.heap.size wA wr)) (fun v13 _ => N - (intOf v13).toNat)
              case atStart => exact ⟨0, Nat.zero_le _, rfl, HBc⟩
              case round =>
                obtain ⟨q, hq, rfl, HBr⟩ := hrel
                have hq0 : (0 : Int) ≤ (q : Int) := by omega
                have HWr := hidIt (HW7.out.go HBr.out)
                have x0 := HWr.out.c0
                have x1 := HWr.out.c1
                have lx := HWr.out.l
                by_cases hlq : q < N
                · have hqI : (q : Int) < (N : Int) := by omega
                  have HYr := hidIt (HYW.out.below HBr.out)
                  go_upto_region 21 with (fail)
                  by_cases hin : (q : Int) ∈ y
                  · have HIN : Hid (∀ m : Nat, Calls Tryd.prog 29 #[.slice ua y.length uc, .int .i64 (q : Int)] (wr.drewN m) fun e w' => e = .returned (.bool true) ∧ w' = wr.drewN m) := fun m => by
                      have := kIn_any _ y (q : Int) (wr.drewN m) (HYr.out.below (below_drew14 (Below.refl _ _) m)) (by have := HYL.out; omega)
                      rwa [decide_eq_true hin] at this
                    go_quiet (exact Calls.quiet_of_same (HIN.out _))
                    have HBq := hidIt (below_drew14 HBr.out nq)
                    clear x0 x1 lx
                    go_wp2_with fail
                    go_roundw
                    case rel => exact ⟨q + 1, by omega, by go_num, HBq⟩
                    case measure => simp [intOf]; omega
                  · have X0 : ∀ wx, Ext wr wx → wx.cell? ⟨G, 0, none⟩ = some (.int .i64 (N : Int)) := fun wx hC => (Below.cell (p := ⟨G, 0, none⟩) hC lx).trans x0
                    have X1 : ∀ wx, Ext wr wx → wx.cell? ⟨G, 1, none⟩ = some (.slice ga ps.length gc) := fun wx hC => (Below.cell (p := ⟨G, 1, none⟩) hC lx).trans x1
                    have HNA : Hid (cfX ps (memB (insF (q : Int) y)) = false) := by
                      show _ = _
                      rw [memB_ins]
                      exact HNX.out.2.2 q hlq (decide_eq_false hin)
                    have CI : Hid (∀ wx, Ext wr wx → Calls Tryd.prog 29 #[.slice ua y.length uc, .int .i64 (q : Int)] wx fun e w'' => ∃ u, e = .returned u ∧ Ext wr w'' ∧ Grows wx w'' ∧ isB false u w'') := fun wx hC => rel_call hC ((kIn_any _ y (q : Int) wx (HYr.out.below hC) (by have := HYL.out; omega)).mono fun e w'' ⟨h1, h2⟩ => ⟨_, h1, congrArg Value.bool (decide_eq_false hin), by rw [h2]; exact Below.refl _ _⟩)
                    have CS : Hid (∀ wx, Ext wr wx → Calls Tryd.prog 30 #[.slice ua y.length uc, .int .i64 (q : Int)] wx fun e w'' => ∃ u, e = .returned u ∧ Ext wr w'' ∧ Grows wx w'' ∧ isIq13 (y.length + 1) (insF (q : Int) y) u w'') := fun wx hC => rel_call hC ((insert_any _ y (q : Int) wx (HYr.out.below hC) (by have := HYL.out; omega)).mono fun e w'' ⟨a, c, h1, h2, h3⟩ => ⟨_, h1, ⟨a, c, rfl, h2.il⟩, h3⟩)
                    have CF : Hid (∀ wx a1 c1, Ext wr wx → IL wx (.slice a1 (y.length + 1) c1) (insF (q : Int) y) → Calls Tryd.prog 21 #[.agg #[.int .i64 (N : Int), .slice ga ps.length gc], .slice a1 (y.length + 1) c1] wx fun e w'' => ∃ u, e = .returned u ∧ Ext wr w'' ∧ Grows wx w'' ∧ isB false u w'') := fun wx a1 c1 hC h1 => rel_call hC ((raConflictFree_any N _ _ ps (insF (q : Int) y) wx (HWr.out.go hC).p HOK.out (by have := HPS.out; omega) h1 (by rw [insF_len]; have := HYL.out; omega)).mono fun e w'' ⟨h3, h4⟩ => ⟨_, h3, by rw [HNA.out, Bool.and_false]; rfl, h4⟩)
                    haveI := Ext.nonempty wr
                    refine wp_region_rel (Ext wr) Grows (relTab [(129, isB false), (135, isIq13 (y.length + 1) (insF (q : Int) y)), (136, isB false)]) (by kernel_rfl) (by kernel_rfl) (by kernel_rfl) (stable_cons (isB_up _) (stable_cons (isIq13_up _ _) (stable_cons (isB_up _) (stable_nil _)))) (Ext.start wr) ?_
                    repeat (
                      refine' walkR_plain (by kernel_rfl) rfl rfl (fun wx hC hL => ?_) ?_
                      rotate_left
                      · (have hls := Below.size hC
                         have hllx := Nat.lt_of_lt_of_le lx hls
                         simp only [X0 wx hC, X1 wx hC, hllx, go_sem]; first | done | (go_simp; exact ⟨rfl, rfl⟩))
                      simp only [Act.put, List.setIfInBounds_toArray, List.set_cons_zero, List.set_cons_succ])
                    refine walkR_rel (by kernel_rfl) rfl rfl (of_decide_eq_true (by kernel_rfl)) (fun wx hC hL => ?_) (fun v hv => ?_)
                    · go_simp
                      exact CI.out wx hC
                    obtain ⟨_, _, rfl⟩ := hv
                    simp only [Act.put, List.setIfInBounds_toArray, List.set_cons_zero, List.set_cons_succ]
                    repeat (
                      refine' walkR_plain (by kernel_rfl) rfl rfl (fun wx hC hL => ?_) ?_
                      rotate_left
                      · (have hls := Below.size hC
                         have hllx := Nat.lt_of_lt_of_le lx hls
                         simp only [X0 wx hC, X1 wx hC, hllx, go_sem]; first | done | (go_simp; exact ⟨rfl, rfl⟩))
                      simp only [Act.put, List.setIfInBounds_toArray, List.set_cons_zero, List.set_cons_succ])
                    refine walkR_rel (by kernel_rfl) rfl rfl (of_decide_eq_true (by kernel_rfl)) (fun wx hC hL => ?_) (fun v hv => ?_)
                    · go_simp
                      exact CS.out wx hC
                    obtain ⟨_, _, a135, c135, rfl, -⟩ := hv
                    simp only [Act.put, List.setIfInBounds_toArray, List.set_cons_zero, List.set_cons_succ]
                    repeat (
                      refine' walkR_plain (by kernel_rfl) rfl rfl (fun wx hC hL => ?_) ?_
                      rotate_left
                      · (have hls := Below.size hC
                         have hllx := Nat.lt_of_lt_of_le lx hls
                         simp only [X0 wx hC, X1 wx hC, hllx, go_sem]; first | done | (go_simp; exact ⟨rfl, rfl⟩))
                      simp only [Act.put, List.setIfInBounds_toArray, List.set_cons_zero, List.set_cons_succ])
                    refine walkR_rel (by kernel_rfl) rfl rfl (of_decide_eq_true (by kernel_rfl)) (fun wx hC hL => ?_) (fun v hv => ?_)
                    · have k135 := hidIt (isIq13_use (hL.get 135 (by simp [more]) (by kernel_rfl) rfl rfl))
                      go_simp
                      exact CF.out wx a135 c135 hC k135.out
                    obtain ⟨_, _, rfl⟩ := hv
                    simp only [Act.put, List.setIfInBounds_toArray, List.set_cons_zero, List.set_cons_succ]
                    repeat (
                      refine' walkR_plain (by kernel_rfl) rfl rfl (fun wx hC hL => ?_) ?_
                      rotate_left
                      · (have hls := Below.size hC
                         have hllx := Nat.lt_of_lt_of_le lx hls
                         simp only [X0 wx hC, X1 wx hC, hllx, go_sem]; first | done | (go_simp; exact ⟨rfl, rfl⟩))
                      simp only [Act.put, List.setIfInBounds_toArray, List.set_cons_zero, List.set_cons_succ])
                    refine fun wq hCq hK => ?_
                    have HBq : Hid (Below wA.heap.size wA wq) := HBr.out.trans (Below.mono (show Below wr.heap.size wr wq from hCq) HBr.out.size)
                    clear hK hCq X0 X1 x0 x1 lx CI CS CF
                    go_wp2_with fail
                    go_roundw
                    case rel => exact ⟨q + 1, by omega, by go_num, HBq⟩
                    case measure => simp [intOf]; omega
                · have hqI : ¬ (q : Int) < (N : Int) := by omega
                  go_wp2_with fail
                  go_roundw
                  case rel => exact ⟨k + 1, by omega, by go_num, HBr⟩
                  case measure => simp [intOf]; omega
          · have hkI : ¬ (k : Int) < (l5 : Int) := by omega
            go_wp2_with fail
            refine (awake14_any _ HWr.out.t).mono ?_
            rintro e w7 ⟨rfl, hb7⟩
            go_wp2_with fail
            go_ret
            exact ⟨rfl, HWr.out.b.trans (Below.mono hb7 HWr.out.b.size)⟩
end Go.Proofs.YtfiaoibfejginaaDoor

namespace Go.Proofs.YtfiaoibfejginaaDoor
set_option linter.unusedVariables false
set_option linter.unusedSimpArgs false
open Go Go.RowKit Go.Sort

def nxt (l : List Int) : List (List Int) := [l ++ [1], l ++ [2], l ++ [3]]
/-- All labellings of n nodes. -/
def labsL : Nat → List (List Int)
  | 0 => [[]]
  | n + 1 => (labsL n).flatMap nxt
theorem labsL_iff : ∀ {n : Nat} {l : List Int}, l ∈ labsL n ↔ l.length = n ∧ LabOk l
  | 0, l => by
    rw [labsL, List.mem_singleton]
    exact ⟨fun h => by subst h; exact ⟨rfl, fun x hx => nomatch hx⟩, fun h => List.eq_nil_of_length_eq_zero h.1⟩
  | n + 1, l => by
    rw [labsL, List.mem_flatMap]
    constructor
    · rintro ⟨x, hx, hl⟩
      obtain ⟨h1, h2⟩ := labsL_iff.1 hx
      simp only [nxt, List.mem_cons, List.not_mem_nil, or_false] at hl
      rcases hl with rfl | rfl | rfl
      · exact ⟨by rw [List.length_append, h1]; rfl, h2.snoc (.inl rfl)⟩
      · exact ⟨by rw [List.length_append, h1]; rfl, h2.snoc (.inr (.inl rfl))⟩
      · exact ⟨by rw [List.length_append, h1]; rfl, h2.snoc (.inr (.inr rfl))⟩
    · rintro ⟨h1, h2⟩
      have hne : l ≠ [] := fun e => by rw [e] at h1; cases h1
      have e := List.dropLast_concat_getLast hne
      have hlast := h2 _ (List.getLast_mem hne)
      refine ⟨l.dropLast, labsL_iff.2 ⟨by rw [List.length_dropLast]; omega, fun x hx => h2 x ((List.dropLast_sublist l).subset hx)⟩, ?_⟩
      simp only [nxt, List.mem_cons, List.not_mem_nil, or_false]
      generalize l.getLast hne = z at *
      rcases hlast with rfl | rfl | rfl
      · exact .inl e.symm
      · exact .inr (.inl e.symm)
      · exact .inr (.inr e.symm)
theorem labsL_at {n : Nat} {l : List Int} (h : l ∈ labsL n) : l.length = n := (labsL_iff.1 h).1
theorem cmpF_app : ∀ (x y : List Int), x.length = y.length → ∀ (a b : List Int), cmpF (x ++ a) (y ++ b) = if cmpF x y = 0 then cmpF a b else cmpF x y
  | [], [], _, a, b => by
    show cmpF a b = if (0 : Int) = 0 then cmpF a b else 0
    rw [if_pos rfl]
  | [], _ :: _, h, _, _ => by cases h
  | _ :: _, [], h, _, _ => by cases h
  | x :: r, y :: s, h, a, b => by
    have ih := cmpF_app r s (by simpa using h) a b
    show (if x < y then -1 else if y < x then 1 else cmpF (r ++ a) (s ++ b)) = if (if x < y then -1 else if y < x then 1 else cmpF r s) = 0 then cmpF a b else (if x < y then -1 else if y < x then 1 else cmpF r s)
    rw [ih]
    by_cases h1 : x < y
    · rw [if_pos h1, if_pos h1, if_neg (by decide)]
    · by_cases h2 : y < x
      · rw [if_neg h1, if_pos h2, if_neg h1, if_pos h2, if_neg (by decide)]
      · rw [if_neg h1, if_neg h2, if_neg h1, if_neg h2]
theorem labsL_up : ∀ n, (labsL n).Pairwise fun x y => cmpF x y < 0
  | 0 => List.pairwise_singleton _ _
  | n + 1 => by
    rw [labsL]
    refine List.pairwise_flatMap.2 ⟨fun l _ => ?_, ?_⟩
    · have hc : ∀ a b : Int, a < b → cmpF (l ++ [a]) (l ++ [b]) < 0 := fun a b hab => by
        rw [cmpF_app l l rfl, if_pos (cmpF_refl l)]
        show (if a < b then -1 else _) < 0
        rw [if_pos hab]; decide
      simp only [nxt, List.pairwise_cons, List.mem_cons, List.not_mem_nil, or_false]
      refine ⟨fun x hx => ?_, fun x hx => ?_, (fun _ h => h.elim), List.Pairwise.nil⟩
      · rcases hx with rfl | rfl
        · exact hc 1 2 (by decide)
        · exact hc 1 3 (by decide)
      · subst hx; exact hc 2 3 (by decide)
    · refine List.Pairwise.imp_of_mem (fun {a b} ha hb hab x hx y hy => ?_) (labsL_up n)
      have hl : a.length = b.length := (labsL_at ha).trans (labsL_at hb).symm
      have hne : ¬ cmpF a b = 0 := by omega
      simp only [nxt, List.mem_cons, List.not_mem_nil, or_false] at hx hy
      rcases hx with rfl | rfl | rfl <;> rcases hy with rfl | rfl | rfl <;> (rw [cmpF_app a b hl, if_neg hne]; exact hab)
theorem labsL_len : ∀ n, (labsL n).length = 3 ^ n
  | 0 => rfl
  | n + 1 => by
    have h : ∀ l : List (List Int), (l.flatMap nxt).length = 3 * l.length := fun l => by
      induction l with
      | nil => rfl
      | cons x r ih => rw [List.flatMap_cons, List.length_append, ih, List.length_cons]; show 3 + _ = _; omega
    rw [labsL, h, labsL_len n, Nat.pow_succ]; omega

set_option maxRecDepth 100000 in
set_option maxHeartbeats 4000000 in
theorem rlLabs_any (n : Nat) (hn : n ≤ 6) (w : World) :
    Calls Tryd.prog 18 #[.int .i64 (n : Int)] w fun e w' => ∃ (a : Option Addr) (c : Nat), e = .returned (.slice a (labsL n).length c) ∧ LL w' (.slice a (labsL n).length c) (labsL n) ∧ Below w.heap.size w w' := by
  have hgr := bgrow w (.cells #[.slice none 0 0] 25)
  have HL0 : Hid (LL (w.alloc (.cells #[.slice none 0 0] 25)) (.slice (some ⟨w.heap.size, 0, none⟩) 1 1) [[]]) :=
    ll_blk (zss := [[]]) (heap_alloc_new w _) rfl (Nat.le_refl 1) (by decide) (fun i h1 h2 => by
      match i, h1 with
      | 0, _ => exact .inl ⟨rfl, rfl⟩)
  have HB0 := hidIt hgr
  clear hgr
  go_enter Tryd.func18, Tryd.ntmps18
  go_upto_region 2 with (fail)
  generalize (w.alloc (.cells #[.slice none 0 0] 25)) = w1 at *
  generalize hP : w.heap.size = P at HL0 ⊢
  have HP := hidIt hP
  clear hP
  go_wp2_with fail
  go_loopw [3, 4, 5, 6, 7] (fun v3 v4 _ _ _ wr => ∃ (i : Nat) (outs : List (List Int)) (a : Option Addr) (c : Nat), i ≤ n ∧ v4 = .int .i64 i ∧ v3 = .slice a outs.length c ∧ Hid (outs.length ≤ 3 ^ i) ∧ Hid (LL wr (.slice a outs.length c) outs) ∧ Hid (outs = labsL i) ∧ Hid (Below w.heap.size w wr)) (fun _ v4 _ _ _ _ => n - (intOf v4).toNat)
  case atStart => exact ⟨0, [[]], _, 1, Nat.zero_le _, (by first | rfl | trivial), (by first | rfl | trivial), (Nat.le_refl 1 : _ ≤ 3 ^ 0), HL0.out, (rfl : [[]] = labsL 0), HB0.out⟩
  case round =>
    clear HL0 HB0
    obtain ⟨i, outs, a, c, hi, rfl, rfl, HLEN, HLL, HSH, HB⟩ := hrel
    have hi0 : (0 : Int) ≤ (i : Int) := by omega
    by_cases hlt : i < n
    · have hiI : (i : Int) < (n : Int) := by omega
      obtain ⟨M, hM⟩ : ∃ M, M = outs.length := ⟨_, rfl⟩
      have HM := hidIt hM
      have hp3 : 3 ^ i ≤ 243 := by
        have : 3 ^ i ≤ 3 ^ 5 := Nat.pow_le_pow_right (by decide) (by omega)
        exact this
      have hM81 : M ≤ 243 := by have := HLEN.out; omega
      rw [← hM] at HLL ⊢
      clear hM hp3
      obtain ⟨wi, hwi⟩ : ∃ wi, wi = wr := ⟨_, rfl⟩
      subst hwi
      go_wp2_with fail
      go_loopw [5, 6, 7] (fun v5 v6 _ wr => ∃ (k m : Nat) (nexts : List (List Int)) (na : Option Addr) (nc : Nat), k ≤ M ∧ v6 = .int .i64 k ∧ v5 = .slice na m nc ∧ Hid (m = 3 * k) ∧ Hid (nexts.length = m) ∧ Hid (OwnLL wr wi.heap.size (.slice na m nc) nexts) ∧ Hid (nexts = (outs.take k).flatMap nxt) ∧ Hid (Below wi.heap.size wi wr)) (fun _ v6 _ _ => M - (intOf v6).toNat)
      case atStart => exact ⟨0, 0, [], none, 0, Nat.zero_le _, (by first | rfl | trivial), (by first | rfl | trivial), (rfl : 0 = 3 * 0), (rfl : ([] : List (List Int)).length = 0), OwnLL.nil _ _, (rfl : ([] : List (List Int)) = (outs.take 0).flatMap nxt), Below.refl _ _⟩
      case round =>
        obtain ⟨k, m0, nexts, na, nc, hk, rfl, rfl, HM0, HNL, HOL, HNS, HBi⟩ := hrel
        have hk0 : (0 : Int) ≤ (k : Int) := by omega
        by_cases hkM : k < M
        · have hkI : (k : Int) < (M : Int) := by omega
          go_wp2_with fail
          go_loopw [5, 7] (fun v5 v7 wr => ∃ (x m : Nat) (nexts : List (List Int)) (na : Option Addr) (nc : Nat), 1 ≤ x ∧ x ≤ 4 ∧ v7 = .int .i64 x ∧ v5 = .slice na m nc ∧ Hid (m = 3 * k + (x - 1)) ∧ Hid (nexts.length = m) ∧ Hid (OwnLL wr wi.heap.size (.slice na m nc) nexts) ∧ Hid (nexts = (outs.take k).flatMap nxt ++ (nxt (outs.getD k [])).take (x - 1)) ∧ Hid (Below wi.heap.size wi wr)) (fun _ v7 _ => 4 - (intOf v7).toNat)
          case atStart => exact ⟨1, m0, nexts, na, nc, Nat.le_refl _, by decide, (by first | rfl | trivial), (by first | rfl | trivial), HM0.out, HNL.out, HOL.out, (by have h14 := HNS.out; show _ = _; rw [h14]; simp), HBi.out⟩
          case round =>
            clear HNL HOL HNS HBi
            obtain ⟨x, m, nexts, na, nc, hx1, hx4, rfl, rfl, HMX, HNL, HOL, HNS, HBi⟩ := hrel
            have hx0 : (0 : Int) ≤ (x : Int) := by omega
            by_cases hx3 : x ≤ 3
            · have hxI : (x : Int) ≤ 3 := by omega
              have hm5 : m ≤ 1000 := by have := HMX.out; omega
              have hkl : k < outs.length := by have := HM.out; omega
              have HLr := HLL.out.below HBi.out
              obtain ⟨ao, co, heo, hcells⟩ := HLr.form
              injection heo with heo1 heo2 heo3
              subst heo1 heo3
              obtain ⟨bo, oo, u, rfl, lo, cu, iu⟩ := hcells k hkl
              have HUL : Hid (outs[k].length ≤ i) := by
                have h : outs[k] ∈ labsL i := by rw [← HSH.out]; exact List.getElem_mem hkl
                exact Nat.le_of_eq (labsL_at h)
              have HZE : Hid (outs.getD k [] = outs[k]) := by show _ = _; rw [List.getD_eq_getElem?_getD, List.getElem?_eq_getElem hkl]; rfl
              generalize outs[k] = zs at *
              obtain ⟨ua, uc, rfl, -⟩ := iu.form
              have hgr := bgrow wr (.cells #[] 3)
              have iu1 := hidIt (iu.below hgr)
              have cu1 := (Below.cell (p := ⟨bo, oo + k, none⟩) hgr lo).trans cu
              have lo1 := Nat.lt_of_lt_of_le lo hgr.size
              obtain ⟨U, hU⟩ : ∃ U, U = zs.length := ⟨_, rfl⟩
              have HU := hidIt hU
              rw [← hU] at iu1 cu1
              have hU5 : U ≤ 6 := by have := HUL.out; omega
              clear HLr heo2 hcells cu iu hkl lo hU
              go_wp2_with (at_builtin; refine Hid.out ?_)
              refine hidIt ?_
              refine wpList_append_ints rfl (.tmp 25) (.tmp 29) rfl wr.heap.size wr.heap.size (Nat.le_refl _) (heap_alloc_new _ _) rfl ua U uc zs rfl iu1.out (by omega) ?_
              intro g2 c2 w2 ho2 hg2
              have hb2 : Below wr.heap.size wr w2 := below_app5 hgr hg2 (fun g e => by injection e with e; omega) hgr.size
              have HO7 := hidIt (ho2.news HU.out.symm (.cells #[.int .i64 (x : Int)] 3))
              have hb3 : Below wr.heap.size wr (w2.alloc (.cells #[.int .i64 (x : Int)] 3)) := hb2.trans (Below.mono (bgrow w2 _) hb2.size)
              have hsz3 : wr.heap.size ≤ (w2.alloc (.cells #[.int .i64 (x : Int)] 3)).heap.size := hb3.size
              have HB3 := hidIt hb3
              clear hgr ho2 hg2 hb2 hb3 iu1 cu1 lo1
              go_wp2_with (at_builtin; refine Hid.out ?_)
              refine hidIt ?_
              refine wpList_append_kb rfl (.tmp 30) (.tmp 32) elemI rfl wr.heap.size (.slice (some ⟨g2, 0, none⟩) U c2) U _ rfl HO7.out _ 1 rfl #[.int .i64 (x : Int)] 3 (heap_alloc_new _ _) rfl (one_of (by rfl)) (by omega) hsz3 ?_
              intro g4 c4 w4 hown4 hg4 hbl4
              have hb4 := below_app5 HB3.out hg4 (fun g e => (owns_blk HO7.out g e).1) hsz3
              have ho4 : OwnI w4 wr.heap.size (.slice (some ⟨g4, 0, none⟩) (U + 1) c4) (zs ++ [(x : Int)]) := OwnI.done HU.out.symm hown4
              have hgr5 := bgrow w4 (.cells #[.slice (some ⟨g4, 0, none⟩) (U + 1) c4] 25)
              have HO5 := hidIt ((show OwnI w4 wi.heap.size _ _ from ⟨ho4.1, by
                rcases ho4.2 with h0 | ⟨g, cap, cur, hv, hB2, h2⟩
                · exact .inl h0
                · exact .inr ⟨g, cap, cur, hv, Nat.le_trans HBi.out.size hB2, h2⟩⟩).go hgr5)
              have hb5 : Below wr.heap.size wr (w4.alloc (.cells #[.slice (some ⟨g4, 0, none⟩) (U + 1) c4] 25)) := hb4.trans (Below.mono hgr5 hb4.size)
              have HL5 := hidIt (HOL.out.go hb5)
              have HB5 := hidIt (HBi.out.trans (Below.mono hb5 HBi.out.size))
              have hsz5 : wi.heap.size ≤ (w4.alloc (.cells #[.slice (some ⟨g4, 0, none⟩) (U + 1) c4] 25)).heap.size := HB5.out.size
              obtain ⟨vals, hv1, hv2, hv3⟩ := HL5.out
              have HV1 : Hid (World.ownsRow (w4.alloc (.cells #[.slice (some ⟨g4, 0, none⟩) (U + 1) c4] 25)) wi.heap.size 25 1 (.slice na m nc) m vals) := by
                rw [HNL.out] at hv1
                exact hv1
              have HV2 := hidIt hv2
              have HV3 := hidIt hv3
              clear hown4 hg4 hbl4 hb4 ho4 hgr5 hb5 HO7 HB3 hsz3 hv1 hv2 hv3 HBi HOL
              go_wp2_with (at_builtin; refine Hid.out ?_)
              refine hidIt ?_
              refine wpList_append_kb rfl (.tmp 24) (.tmp 34) elemLL rfl wi.heap.size (.slice na m nc) m _ rfl HV1.out _ 1 rfl #[.slice (some ⟨g4, 0, none⟩) (U + 1) c4] 25 (heap_alloc_new _ _) rfl (one_of (by rfl)) (by omega) hsz5 ?_
              intro g6 c6 w6 hown6 hg6 hbl6
              have HB6 := hidIt (below_app5 HB5.out hg6 (fun g e => (owns_blk HV1.out g e).1) hsz5)
              have HO6 : Hid (OwnLL w6 wi.heap.size (.slice (some ⟨g6, 0, none⟩) (m + 1) c6) (nexts ++ [zs ++ [(x : Int)]])) :=
                OwnLL.app HL5.out HO5.out vals (by rw [HNL.out]; exact HV1.out) HV2.out HV3.out (by rw [HNL.out]; exact hown6) hg6
              have HN6 : Hid ((nexts ++ [zs ++ [(x : Int)]]).length = m + 1) := by show _ = _; rw [List.length_append, HNL.out]; rfl
              have HS6 : Hid (nexts ++ [zs ++ [(x : Int)]] = (outs.take k).flatMap nxt ++ (nxt (outs.getD k [])).take (x + 1 - 1)) := by
                show _ = _
                rw [HNS.out, List.append_assoc, HZE.out]
                congr 1
                rcases (show x = 1 ∨ x = 2 ∨ x = 3 by omega) with rfl | rfl | rfl <;> rfl
              have hwx : IntKind.i64.wrap ((x : Int) + 1) = (x : Int) + 1 := IntWalk.i64_in _ (by omega)
              clear hown6 hg6 hbl6 HV1 HV2 HV3 HO5 HL5 HB5 hsz5
              go_wp2_with fail
              go_roundw
              case rel => exact ⟨x + 1, m + 1, _, some ⟨g6, 0, none⟩, c6, by omega, by omega, by go_num, (by first | rfl | trivial), (show m + 1 = 3 * k + (x + 1 - 1) by have := HMX.out; omega), HN6.out, HO6.out, HS6.out, HB6.out⟩
              case measure => simp [intOf]; omega
            · obtain rfl : x = 4 := by omega
              have hxI : ¬ ((4 : Nat) : Int) ≤ 3 := by decide
              go_wp2_with fail
              go_roundw
              case rel => exact ⟨k + 1, m, nexts, na, nc, by omega, by go_num, (by first | rfl | trivial), (show m = 3 * (k + 1) by have := HMX.out; omega), HNL.out, HOL.out, (by
                have hkl : k < outs.length := by have := HM.out; omega
                have h14 := HNS.out
                show _ = _
                rw [h14, List.take_succ_eq_append_getElem hkl, List.flatMap_append, List.getD_eq_getElem?_getD, List.getElem?_eq_getElem hkl]
                simp [nxt]), HBi.out⟩
              case measure => simp [intOf]; omega
        · obtain rfl : k = M := by omega
          have hkI : ¬ (k : Int) < (k : Int) := by omega
          have HLF : Hid (LL wr (.slice na nexts.length nc) nexts) := by
            have h := HOL.out.ll
            rw [← HNL.out] at h
            exact h
          have HLN : Hid (nexts.length ≤ 3 ^ (i + 1)) := by
            show _ ≤ _
            rw [HNL.out, HM0.out, Nat.pow_succ]
            have := HLEN.out
            have := HM.out
            omega
          have HFI : Hid (nexts = labsL (i + 1)) := by
            have h14 := HNS.out
            rw [List.take_of_length_le (by have := HM.out; omega), HSH.out] at h14
            exact h14
          have HBF := hidIt (HB.out.trans (Below.mono HBi.out HB.out.size))
          have hnl := HNL.out
          clear HNL HOL HM0
          subst hnl
          go_wp2_with fail
          go_roundw
          case rel => exact ⟨i + 1, nexts, na, nc, by omega, by go_num, (by first | rfl | trivial), HLN.out, HLF.out, HFI.out, HBF.out⟩
          case measure => simp [intOf]; omega
    · obtain rfl : i = n := by omega
      have hiI : ¬ (i : Int) < (i : Int) := by omega
      go_wp2_with fail
      go_ret
      have h14 := HSH.out
      subst h14
      exact ⟨a, c, rfl, HLL.out, HB.out⟩
end Go.Proofs.YtfiaoibfejginaaDoor

namespace Go.Proofs.YtfiaoibfejginaaDoor
set_option linter.unusedVariables false
set_option linter.unusedSimpArgs false
open Go Go.RowKit Go.Sort

/-- The complete ones among all labellings. -/
def compsL (N : Nat) (ps : List (Int × Int)) : List (List Int) := (labsL N).filter (compB N ps)
theorem comps_cl (N : Nat) (ps : List (Int × Int)) : CL N ps (compsL N ps) := by
  refine ⟨(labsL_up N).filter _, fun l => ?_⟩
  unfold compsL
  rw [List.mem_filter, labsL_iff]
  constructor
  · exact fun h => h.2
  · intro h
    have hv : validB N l = true := (Bool.and_eq_true _ _ ▸ (show (validB N l && decide ((illL N ps l).length = 0)) = true from h)).1
    exact ⟨validB_iff.1 hv, h⟩
/-- All sets. -/
theorem tb_bit : ∀ m : Fin 64, ∀ i : Fin 6, tb m.val i.val = m.val.testBit i.val := by decide +kernel
theorem sets_nodup : ∀ n : Fin 7, (setsL n.val).Nodup := by decide +kernel
theorem sets_mem {N : Nat} (hN : N ≤ 6) {l : List Int} : l ∈ setsL N ↔ setB N l = true := by
  constructor
  · intro h
    obtain ⟨i, hi, rfl⟩ := List.getElem_of_mem h
    exact setsL_set hi
  · intro h
    unfold setsL
    rw [List.mem_map]
    have hb : ∀ j, (bOf N (memB l)).toNat.testBit j = (decide (j < N) && memB l j) := fun j => bOf_bit (by omega) (memB l) j
    have hlt : (bOf N (memB l)).toNat < 2 ^ N := Nat.lt_pow_two_of_testBit _ fun i hi => by rw [hb, decide_eq_false (by omega)]; rfl
    have h64 : (bOf N (memB l)).toNat < 64 := Nat.lt_of_lt_of_le hlt (Nat.le_trans (Nat.pow_le_pow_right (by decide) hN) (by decide))
    refine ⟨(bOf N (memB l)).toNat, List.mem_range.2 hlt, ?_⟩
    refine (setL_congr fun i hi => ?_).trans (setB_eq h).symm
    exact (tb_bit ⟨_, h64⟩ ⟨i, by omega⟩).trans (by rw [hb, decide_eq_true hi, Bool.true_and])
def cfL (N : Nat) (ps : List (Int × Int)) (x : List Int) : Bool := setB N x && cfX ps (memB x)
def mostStep (N : Nat) (ps : List (Int × Int)) (x y : List Int) : Bool := decide (y.length ≤ x.length) || (!(cfL N ps y) || !(subL x y))
def mostB (N : Nat) (ps : List (Int × Int)) (x : List Int) (l : List (List Int)) : Bool := cfL N ps x && l.all (mostStep N ps x)
theorem most_snoc (N : Nat) (ps : List (Int × Int)) (x y : List Int) (l : List (List Int)) : mostB N ps x (l ++ [y]) = (mostB N ps x l && mostStep N ps x y) := by
  unfold mostB
  rw [List.all_append, List.all_cons, List.all_nil, Bool.and_true, Bool.and_assoc]
theorem most_iff {N : Nat} {ps : List (Int × Int)} (hok : GOk (N : Int) ps) (hN : N ≤ 6) {x : List Int} (hx : setB N x = true) : mostB N ps x (setsL N) = true ↔ naiveX N ps (memB x) := by
  unfold mostB cfL
  rw [hx, Bool.true_and, Bool.and_eq_true, List.all_eq_true]
  constructor
  · rintro ⟨h1, h2⟩
    refine ⟨h1, fun k hk hX => Bool.eq_false_iff.2 fun hc => ?_⟩
    have hy : setB N (setL N (addX (memB x) k)) = true := setB_setL _ _
    have h3 := h2 _ ((sets_mem hN).2 hy)
    have hme : ∀ i, memB (setL N (addX (memB x) k)) i = addX (memB x) k i := fun i => by
      rw [memB_setL]
      cases hi : addX (memB x) k i
      · rw [Bool.and_false]
      · have : i < N := by
          have h' : memB x i = true ∨ i = k := by simpa [addX] using hi
          rcases h' with h' | h'
          · exact setB_lt hx h'
          · omega
        rw [decide_eq_true this]; rfl
    have hcf : cfL N ps (setL N (addX (memB x) k)) = true := by
      unfold cfL
      rw [hy, Bool.true_and, show memB (setL N (addX (memB x) k)) = addX (memB x) k from funext hme]
      exact hc
    have hsub : subL x (setL N (addX (memB x) k)) = true := by
      rw [setB_eq hx, subL_set]
      refine subX_iff.2 fun i _ hi => ?_
      rw [← setB_eq hx]
      show (memB x i || _) = true
      rw [hi]; rfl
    have hlen : ¬ (setL N (addX (memB x) k)).length ≤ x.length := by
      have e1 : x.length = sizeX N (memB x) := by
        have := setL_size N (memB x)
        rwa [← setB_eq hx] at this
      rw [setL_size, e1]
      have := sizeX_lt (N := N) (X := memB x) (Y := addX (memB x) k) (fun i _ hi => by show (memB x i || _) = true; rw [hi]; rfl) (fun e => by
        have := setL_inj e k hk
        rw [hX] at this
        simp [addX] at this)
      omega
    unfold mostStep at h3
    rw [decide_eq_false hlen, hcf, hsub] at h3
    cases h3
  · rintro ⟨h1, h2⟩
    refine ⟨h1, fun y hy => ?_⟩
    have hys := (sets_mem hN).1 hy
    unfold mostStep
    by_cases hlen : y.length ≤ x.length
    · rw [decide_eq_true hlen]; rfl
    rw [decide_eq_false hlen, Bool.false_or]
    cases hcf : cfL N ps y
    · rfl
    cases hsub : subL x y
    · rfl
    exfalso
    have hcy : cfX ps (memB y) = true := by
      unfold cfL at hcf
      exact (Bool.and_eq_true _ _ ▸ hcf : _ ∧ _).2
    have hxy : ∀ i, i < N → memB x i = true → memB y i = true := fun i hi hm => by
      have := subL_iff.1 hsub (i : Int) (of_decide_eq_true hm)
      exact decide_eq_true this
    have hex : ∃ k, k < N ∧ memB y k = true ∧ memB x k = false := Classical.byContradiction fun hn => by
      have hyx : ∀ i, i < N → memB y i = true → memB x i = true := fun i hi hm => by
        cases e : memB x i
        · exact absurd ⟨i, hi, hm, e⟩ hn
        · rfl
      have := sizeX_mono hyx
      have e1 : x.length = sizeX N (memB x) := by
        have := setL_size N (memB x)
        rwa [← setB_eq hx] at this
      have e2 : y.length = sizeX N (memB y) := by
        have := setL_size N (memB y)
        rwa [← setB_eq hys] at this
      omega
    obtain ⟨k, hk, hy1, hx1⟩ := hex
    have h3 := h2 k hk hx1
    rw [cfX_sub hok.ix (Y := memB y) (fun i hi hm => by
      have h' : memB x i = true ∨ i = k := by simpa [addX] using hm
      rcases h' with h' | h'
      · exact hxy i hi h'
      · rw [h']; exact hy1) hcy] at h3
    cases h3
/-- The maximal ones among all sets. -/
def naivesL (N : Nat) (ps : List (Int × Int)) : List (List Int) := (setsL N).filter fun x => mostB N ps x (setsL N)
theorem naives_mem {N : Nat} {ps : List (Int × Int)} (hok : GOk (N : Int) ps) (hN : N ≤ 6) (l : List Int) : l ∈ naivesL N ps ↔ setB N l = true ∧ naiveX N ps (memB l) := by
  unfold naivesL
  rw [List.mem_filter, sets_mem hN]
  exact ⟨fun h => ⟨h.1, (most_iff hok hN h.1).1 h.2⟩, fun h => ⟨h.1, (most_iff hok hN h.1).2 h.2⟩⟩
theorem naives_len {N : Nat} {ps : List (Int × Int)} (hok : GOk (N : Int) ps) (hN : N ≤ 6) {ls : List (List Int)} (h : NL N ps ls) : ls.length = (naivesL N ps).length := by
  have nd : ls.Nodup := h.up.imp fun {a b} hab e => by subst e; rw [cmpF_refl] at hab; exact absurd hab (by decide)
  have nd2 : (naivesL N ps).Nodup := (sets_nodup ⟨N, by omega⟩).filter _
  have h1 := nodup_len14 (l := ls) (m := naivesL N ps) nd fun x hx => (naives_mem hok hN x).2 ((h.mem x).1 hx)
  have h2 := nodup_len14 (l := naivesL N ps) (m := ls) nd2 fun x hx => (h.mem x).2 ((naives_mem hok hN x).1 hx)
  omega
theorem naives_few {N : Nat} {ps : List (Int × Int)} (hN : N ≤ 6) : ¬ NLmore N ps := by
  rintro ⟨ls, h1, h2, h3⟩
  have := nodup_len14 (l := ls) (m := setsL N) h1 fun x hx => (sets_mem hN).2 (h2 x hx).1
  rw [setsL_len] at this
  have h64 : 2 ^ N ≤ 2 ^ 6 := Nat.pow_le_pow_right (by decide) hN
  omega
end Go.Proofs.YtfiaoibfejginaaDoor

namespace Go.Proofs.YtfiaoibfejginaaDoor
set_option linter.unusedVariables false
set_option linter.unusedSimpArgs false
open Go Go.RowKit Go.Sort

/-- A row of the call's own, of lists that lay before. -/
def WantR (wB w : World) (v : Value) (zss : List (List Int)) : Prop := ∃ vals : List Value, w.ownsRow wB.heap.size 25 1 v zss.length vals ∧ vals.length = zss.length ∧ ∀ i (h : i < zss.length), ∃ u, vals[i]? = some u ∧ IL wB u zss[i]
theorem WantR.nil (wB w : World) : WantR wB w (.slice none 0 0) [] := ⟨[], World.ownsRow_nil w _ _ _, rfl, fun i h => by cases h⟩
theorem WantR.go {wB w w' : World} {v : Value} {zss : List (List Int)} (h : WantR wB w v zss) (hb : Below w.heap.size w w') : WantR wB w' v zss := by
  obtain ⟨vals, h1, h2, h3⟩ := h
  exact ⟨vals, owns_kept h1 fun g e => hb.block g (owns_blk h1 g e).2, h2, h3⟩
theorem WantR.ll {wB w : World} {v : Value} {zss : List (List Int)} (h : WantR wB w v zss) (hb : Below wB.heap.size wB w) : LL w v zss := by
  obtain ⟨vals, h1, h2, h3⟩ := h
  rcases h1.2 with ⟨rfl, h0⟩ | ⟨g, cap, cur, rfl, hB, hg, hnc, hcm, -, -⟩
  · exact .inl ⟨rfl, List.eq_nil_of_length_eq_zero h0⟩
  · refine .inr ⟨g, 0, cap, rfl, hnc, hcm, lt_of_block hg, fun i hi => ?_⟩
    obtain ⟨u, hu, ho⟩ := h3 i hi
    rw [Nat.zero_add]
    exact ⟨u, owns_cell h1 rfl i u hu, ho.below hb⟩
theorem WantR.app {wB w8 : World} {v8 u : Value} {zss : List (List Int)} {z : List Int} {vals : List Value} (hvl : vals.length = zss.length) (hvs : ∀ i (h : i < zss.length), ∃ u, vals[i]? = some u ∧ IL wB u zss[i]) (hz : IL wB u z)
    (hown : w8.ownsRow wB.heap.size 25 1 v8 (zss.length + 1) (vals ++ [u])) : WantR wB w8 v8 (zss ++ [z]) := by
  refine ⟨vals ++ [u], by rw [List.length_append]; exact hown, by rw [List.length_append, List.length_append, hvl]; rfl, fun i hi => ?_⟩
  by_cases hi' : i < zss.length
  · obtain ⟨u', hu', ho'⟩ := hvs i hi'
    refine ⟨u', by rw [List.getElem?_append_left (by omega)]; exact hu', ?_⟩
    rw [List.getElem_append_left hi']
    exact ho'
  · have e : i = zss.length := by rw [List.length_append] at hi; simp at hi; omega
    subst e
    refine ⟨u, by rw [List.getElem?_append_right (by omega), hvl, Nat.sub_self]; rfl, ?_⟩
    rw [List.getElem_append_right (Nat.le_refl _)]
    simp only [Nat.sub_self, List.getElem_cons_zero]
    exact hz
theorem filt_step (f : List Int → Bool) {l : List (List Int)} {k : Nat} (h : k < l.length) : (l.take (k + 1)).filter f = (l.take k).filter f ++ if f l[k] = true then [l[k]] else [] := by
  rw [List.take_succ_eq_append_getElem h, List.filter_append]
  congr 1
  by_cases hf : f l[k] = true
  · rw [if_pos hf, List.filter_cons, if_pos hf]; rfl
  · rw [if_neg hf, List.filter_cons, if_neg hf]; rfl

theorem comp_exact (N : Nat) (hN : N ≤ 6) (v : Value) (ps : List (Int × Int)) (w : World) (h : PairsAt w v ps) (hok : GOk (N : Int) ps) (hl : ps.length ≤ 1000) (hT : Tab w) :
    Calls Tryd.prog 12 #[.agg #[.int .i64 (N : Int), v]] w fun e w' => Below w.heap.size w w' ∧ ∃ (a : Option Addr) (l c : Nat) (k : Int), e = .returned (.tuple #[.slice a l c, .int .i64 k]) ∧ ((k = 0 ∧ LL w' (.slice a l c) (compsL N ps) ∧ (compsL N ps).length ≤ 200) ∨ (k = 2 ∧ 200 < (compsL N ps).length)) :=
  (sComplete_any (N : Int) v ps w h (by omega) hT).mono fun e w' ⟨hb, hr⟩ => by
    refine ⟨hb, ?_⟩
    rcases hr with ⟨h0, -⟩ | ⟨-, ⟨va, ls, he, hc, hll, hs⟩ | ⟨he, hm⟩⟩
    · exact absurd (valE_of hok) h0
    · rw [Int.toNat_natCast] at hc
      obtain rfl := hc.uniq (comps_cl N ps)
      obtain ⟨aa, ca, rfl, -⟩ := hs.ll.form
      exact ⟨aa, _, ca, 0, he, .inl ⟨rfl, hs.ll, hll⟩⟩
    · rw [Int.toNat_natCast] at hm
      exact ⟨none, 0, 0, 2, he, .inr ⟨rfl, hm.not (comps_cl N ps)⟩⟩
theorem naive_exact (N : Nat) (hN : N ≤ 6) (v : Value) (ps : List (Int × Int)) (w : World) (h : PairsAt w v ps) (hok : GOk (N : Int) ps) (hl : ps.length ≤ 1000) (hT : Tab w) :
    Calls Tryd.prog 14 #[.agg #[.int .i64 (N : Int), v]] w fun e w' => Below w.heap.size w w' ∧ ∃ (ls : List (List Int)) (a : Option Addr) (l c : Nat), e = .returned (.tuple #[.slice a l c, .int .i64 0]) ∧ LL w' (.slice a l c) ls ∧ ls.length = (naivesL N ps).length ∧ l ≤ 200 ∧ NL N ps ls :=
  (sNaive_any (N : Int) v ps w h (by omega) hT).mono fun e w' ⟨hb, hr⟩ => by
    refine ⟨hb, ?_⟩
    rcases hr with ⟨h0, -⟩ | ⟨-, ⟨va, ls, he, hc, hll, hs⟩ | ⟨he, hm⟩⟩
    · exact absurd (valE_of hok) h0
    · rw [Int.toNat_natCast] at hc
      obtain ⟨aa, ca, rfl, -⟩ := hs.ll.form
      exact ⟨ls, aa, _, ca, he, hs.ll, naives_len hok hN hc, hll, hc⟩
    · rw [Int.toNat_natCast] at hm
      exact absurd hm (naives_few hN)

set_option maxRecDepth 100000 in
set_option maxHeartbeats 4000000 in
theorem exact_walk (lv : Value) (zs : List Int) (w : World) (hz : IntsAt w w.heap.size lv zs) (hT : Tab w) :
    Calls Tryd.prog 4 #[lv] w fun e w' => e = .returned (.bool true) ∧ Below w.heap.size w w' := by
  have HT := hidIt hT
  have HZ := hidIt hz
  clear hz hT
  go_enter Tryd.func4, Tryd.ntmps4
  go_wp2_with fail
  refine (new_any lv zs w.heap.size w HZ.out (Nat.le_refl _)).mono ?_
  rintro e w1 ⟨zs', rfl, hs1, o1, rfl⟩
  have HS1 := hidIt hs1
  have HB1 := hidIt (bgrow w o1)
  have hsz1 : w.heap.size < (w.alloc o1).heap.size := hs1.lt
  clear hs1
  generalize w.alloc o1 = w1 at *
  go_wp2_with fail
  refine (kGraph_any 6 (by decide) _ _ _ _ w1 HS1.out).mono ?_
  rintro e w2 ⟨N, ps, ga, gc, k2, rfl, hN, hok, hpl, hop, hs2, hg2⟩
  have HOK := hidIt hok
  have HPS := hidIt hpl
  have hgr := bgrow w2 (.cells #[.int .i64 (N : Int), .slice ga ps.length gc] 24)
  have HB2 := hidIt (below_read13 HB1.out hg2 (Nat.le_of_lt hsz1))
  have HW3 : Hid (LW w w2.heap.size N ga gc ps (w2.alloc (.cells #[.int .i64 (N : Int), .slice ga ps.length gc] 24))) :=
    ⟨heap_alloc_new w2 _, (hop.below hgr).lits, (HT.out.go HB2.out).go hgr, HB2.out.trans (Below.mono hgr HB2.out.size)⟩
  clear hok hpl hop hs2 hg2 hgr HB2 HS1 HB1
  go_upto_region 3 with (fail)
  generalize (w2.alloc (.cells #[.int .i64 (N : Int), .slice ga ps.length gc] 24)) = w3 at *
  generalize w2.heap.size = G at *
  have x0 := HW3.out.c0
  have x1 := HW3.out.c1
  have lx := HW3.out.l
  go_wp2_with fail
  refine (rlLabs_any N hN _).mono ?_
  rintro e w4 ⟨la, lc, rfl, hll, hb4⟩
  have HW4 := hidIt (HW3.out.go hb4)
  have HC4 := hidIt hll.cut.2
  have HLN := hidIt (labsL_len N)
  obtain ⟨M, hM⟩ : ∃ M, M = (labsL N).length := ⟨_, rfl⟩
  have HM := hidIt hM
  have hM729 : M ≤ 729 := by
    rw [hM, labsL_len]
    exact Nat.le_trans (Nat.pow_le_pow_right (by decide) hN) (by decide)
  rw [← hM]
  clear hll hb4 x0 x1 lx HW3 hM
  go_wp2_with fail
  go_loopw [5, 8, 32] (fun v5 _ i wr => ∃ (k m : Nat) (a : Option Addr) (c : Nat), k ≤ M ∧ i = .int .i64 k ∧ v5 = .slice a m c ∧ m ≤ k ∧ Hid ((((labsL N).take k).filter (compB N ps)).length = m) ∧ Hid (WantR w4 wr (.slice a m c) (((labsL N).take k).filter (compB N ps))) ∧ Hid (Below w4.heap.size w4 wr)) (fun _ _ i _ => M - (intOf i).toNat)
  case atStart => exact ⟨0, 0, none, 0, Nat.zero_le _, (by first | rfl | trivial), (by first | rfl | trivial), Nat.le_refl _, (rfl : (((labsL N).take 0).filter (compB N ps)).length = 0), WantR.nil _ _, Below.refl _ _⟩
  case round =>
    obtain ⟨k, m, a, c, hk, rfl, rfl, hmk, HML, HWT, HBr⟩ := hrel
    have hk0 : (0 : Int) ≤ (k : Int) := by omega
    have HWr := hidIt (HW4.out.go HBr.out)
    have x0 := HWr.out.c0
    have x1 := HWr.out.c1
    have lx := HWr.out.l
    by_cases hlt : k < M
    · have hkI : (k : Int) < (M : Int) := by omega
      have hkl : k < (labsL N).length := by have := HM.out; omega
      obtain ⟨b, off, ua, un, uc, rfl, lb, cc, hi⟩ := HC4.out k hkl
      have cy := (Below.cell (p := ⟨b, off + k, none⟩) HBr.out lb).trans cc
      have lb2 := Nat.lt_of_lt_of_le lb HBr.out.size
      have HY := hidIt (hi.below HBr.out)
      have HY4 := hidIt hi
      have HYL : Hid ((labsL N)[k].length = N) := labsL_at (List.getElem_mem hkl)
      have HFS := hidIt (filt_step (compB N ps) hkl)
      clear cc hi
      generalize (labsL N)[k] = y at *
      go_wp2_with fail
      refine (lIsComplete_any N _ _ ps y _ HWr.out.p HOK.out HPS.out HY.out (by have := HYL.out; omega)).mono ?_
      rw [show (validB N y && decide ((illL N ps y).length = 0)) = compB N ps y from rfl]
      rintro e w6 ⟨rfl, hb6⟩
      have HB6 := hidIt (HBr.out.trans (Below.mono hb6 HBr.out.size))
      have HWT6 := hidIt (HWT.out.go hb6)
      clear x0 x1 lx cy lb2 hb6 HWr HBr HY HWT
      cases hcb : compB N ps y
      · rw [hcb, if_neg (by decide), List.append_nil] at HFS
        go_wp2_with fail
        go_roundw
        case rel => exact ⟨k + 1, m, a, c, by omega, by go_num, rfl, by omega, (by have := HML.out; rw [← HFS.out] at this; exact this), (by rw [HFS.out]; exact HWT6.out), HB6⟩
        case measure => simp [intOf]; omega
      · rw [hcb, if_pos rfl] at HFS
        clear hcb
        obtain ⟨vals, hv1, hv2, hv3⟩ := HWT6.out
        have hgr := bgrow w6 (.cells #[.slice ua un uc] 25)
        have HV1 : Hid (World.ownsRow (w6.alloc (.cells #[.slice ua un uc] 25)) w4.heap.size 25 1 (.slice a m c) m vals) := by
          have := owns_kept hv1 fun g e => hgr.block g (owns_blk hv1 g e).2
          rwa [HML.out] at this
        have HV2 := hidIt hv2
        have HV3 := hidIt hv3
        have HB7 := hidIt (HB6.out.trans (Below.mono hgr HB6.out.size))
        have hsz7 : w4.heap.size ≤ (w6.alloc (.cells #[.slice ua un uc] 25)).heap.size := HB7.out.size
        clear hv1 hv2 hv3 hgr
        go_wp2_with (at_builtin; refine Hid.out ?_)
        refine hidIt ?_
        refine wpList_append_kb rfl (.tmp 39) (.tmp 41) elemLL rfl w4.heap.size (.slice a m c) m _ rfl HV1.out _ 1 rfl #[.slice ua un uc] 25 (heap_alloc_new _ _) rfl (one_of (by rfl)) (by omega) hsz7 ?_
        intro g8 c8 w8 hown8 hg8 hbl8
        have HB8 := hidIt (below_app5 HB7.out hg8 (fun g e => (owns_blk HV1.out g e).1) hsz7)
        have HW8 : Hid (WantR w4 w8 (.slice (some ⟨g8, 0, none⟩) (m + 1) c8) (((labsL N).take (k + 1)).filter (compB N ps))) := by
          show WantR _ _ _ _
          rw [HFS.out]
          exact WantR.app HV2.out HV3.out HY4.out (by rw [HML.out]; exact hown8)
        have HL8 : Hid ((((labsL N).take (k + 1)).filter (compB N ps)).length = m + 1) := by
          show _ = _
          rw [HFS.out, List.length_append, HML.out]; rfl
        clear hown8 hg8 hbl8 HV1 HV2 HV3 HB7 hsz7
        go_wp2_with fail
        go_roundw
        case rel => exact ⟨k + 1, m + 1, some ⟨g8, 0, none⟩, c8, by omega, by go_num, rfl, by omega, HL8, HW8, HB8⟩
        case measure => simp [intOf]; omega
    · have hkI : ¬ (k : Int) < (M : Int) := by omega
      have HLW : Hid (LL wr (.slice a m c) (compsL N ps)) := by
        have := HWT.out.ll HBr.out
        rwa [List.take_of_length_le (by have := HM.out; omega)] at this
      have HWL : Hid ((compsL N ps).length = m) := by
        have := HML.out
        rwa [List.take_of_length_le (by have := HM.out; omega)] at this
      have hm729 : m ≤ 729 := by omega
      clear HWT HML HC4 HLN HW4 HBr hmk
      go_wp2_with fail
      clear hkI hlt hk hk0 hM729 HM
      refine (rlSets_any N (by omega) _).mono ?_
      rintro e w7 ⟨sa, sc, rfl, hll, hb7⟩
      have HW7 := hidIt (HWr.out.go hb7)
      have HC7 := hidIt hll.cut.2
      have HLW7 := hidIt (HLW.out.below hb7)
      obtain ⟨M, hM⟩ : ∃ M, M = 2 ^ N := ⟨_, rfl⟩
      have HM : Hid (M = (setsL N).length) := by show _ = _; rw [hM, setsL_len]
      have hM64 : M ≤ 64 := by
        rw [hM]
        exact Nat.le_trans (Nat.pow_le_pow_right (by decide) hN) (by decide)
      rw [← hM]
      clear hll hb7 x0 x1 lx HWr hM HLW
      go_wp2_with fail
      go_loopw [6, 11, 12, 14, 49] (fun v6 _ _ _ i wr => ∃ (k q : Nat) (a6 : Option Addr) (c6 : Nat), k ≤ M ∧ i = .int .i64 k ∧ v6 = .slice a6 q c6 ∧ q ≤ k ∧ Hid ((((setsL N).take k).filter fun x => mostB N ps x (setsL N)).length = q) ∧ Hid (WantR w7 wr (.slice a6 q c6) (((setsL N).take k).filter fun x => mostB N ps x (setsL N))) ∧ Hid (Below w7.heap.size w7 wr)) (fun _ _ _ _ i _ => M - (intOf i).toNat)
      case atStart => exact ⟨0, 0, none, 0, Nat.zero_le _, (by first | rfl | trivial), (by first | rfl | trivial), Nat.le_refl _, (rfl : (((setsL N).take 0).filter fun x => mostB N ps x (setsL N)).length = 0), WantR.nil _ _, Below.refl _ _⟩
      case round =>
        obtain ⟨k, q, a6, c6, hk, rfl, rfl, hqk, HQL, HWT, HBr⟩ := hrel
        have hk0 : (0 : Int) ≤ (k : Int) := by omega
        have HWr := hidIt (HW7.out.go HBr.out)
        have x0 := HWr.out.c0
        have x1 := HWr.out.c1
        have lx := HWr.out.l
        by_cases hlt : k < M
        · have hkI : (k : Int) < (M : Int) := by omega
          have hkl : k < (setsL N).length := by have := HM.out; omega
          obtain ⟨b, off, xa, xn, xc, rfl, lb, cc, hi⟩ := HC7.out k hkl
          have cy := (Below.cell (p := ⟨b, off + k, none⟩) HBr.out lb).trans cc
          have lb2 := Nat.lt_of_lt_of_le lb HBr.out.size
          have HXL : Hid ((setsL N)[k].length ≤ N) := setB_len (setsL_set hkl)
          have HFS := hidIt (filt_step (fun x => mostB N ps x (setsL N)) hkl)
          obtain ⟨xa2, xc2, hev, -⟩ := hi.ic
          injection hev with hev1 hev2 hev3
          clear hev1 hev3
          subst hev2
          have HX := hidIt (hi.below HBr.out)
          have HX7 := hidIt hi
          clear cc hi
          generalize (setsL N)[k] = x at *
          go_wp2_with fail
          refine (raConflictFree_any N _ _ ps x _ HWr.out.p HOK.out (by have := HPS.out; omega) HX.out (by have := HXL.out; omega)).mono ?_
          rintro e w8 ⟨rfl, hb8⟩
          have HB8 := hidIt (HBr.out.trans (Below.mono hb8 HBr.out.size))
          have HWT8 := hidIt (HWT.out.go hb8)
          have HW8 := hidIt (HWr.out.go hb8)
          clear x0 x1 lx cy lb2 hb8 HWr HBr HX HWT lb
          go_wp2_with fail
          go_loopw [12, 14, 58] (fun v12 _ i ws => ∃ j : Nat, j ≤ M ∧ i = .int .i64 j ∧ v12 = .bool (mostB N ps x ((setsL N).take j)) ∧ Hid (Below w8.heap.size w8 ws)) (fun _ _ i _ => M - (intOf i).toNat)
          case atStart => exact ⟨0, Nat.zero_le _, (by first | rfl | trivial), congrArg Value.bool (by unfold mostB cfL; rw [List.take_zero, List.all_nil, Bool.and_true]), Below.refl _ _⟩
          case round =>
            obtain ⟨j, hj, rfl, rfl, HBs⟩ := hrel
            have hj0 : (0 : Int) ≤ (j : Int) := by omega
            have HWs := hidIt (HW8.out.go HBs.out)
            have HB7s := hidIt (HB8.out.trans (Below.mono HBs.out HB8.out.size))
            by_cases hltj : j < M
            · have hjI : (j : Int) < (M : Int) := by omega
              have hjl : j < (setsL N).length := by have := HM.out; omega
              have x0 := HWs.out.c0
              have x1 := HWs.out.c1
              have lx := HWs.out.l
              obtain ⟨b', off', ya, yn, yc, he, lb', cc', hi'⟩ := HC7.out j hjl
              injection he with he
              injection he with he1 he2
              subst he1 he2
              have cj := (Below.cell (p := ⟨b, off + j, none⟩) HB7s.out lb').trans cc'
              have lb2 := Nat.lt_of_lt_of_le lb' HB7s.out.size
              have HYL : Hid ((setsL N)[j].length ≤ N) := setB_len (setsL_set hjl)
              have HMS : Hid (mostB N ps x ((setsL N).take (j + 1)) = (mostB N ps x ((setsL N).take j) && mostStep N ps x (setsL N)[j])) := by
                show _ = _
                rw [List.take_succ_eq_append_getElem hjl, most_snoc]
              obtain ⟨ya2, yc2, hev, -⟩ := hi'.ic
              injection hev with hev1 hev2 hev3
              clear hev1 hev3
              subst hev2
              have HY := hidIt (hi'.below HB7s.out)
              have HXs := hidIt (HX7.out.below HB7s.out)
              clear cc' hi' lb'
              generalize (setsL N)[j] = y at *
              cases hmo : mostB N ps x ((setsL N).take j)
              · rw [hmo, Bool.false_and] at HMS
                clear hmo
                go_wp2_with fail
                go_roundw
                case rel => exact ⟨j + 1, by omega, by go_num, congrArg Value.bool HMS.out.symm, HBs⟩
                case measure => simp [intOf]; omega
              · rw [hmo, Bool.true_and] at HMS
                clear hmo
                by_cases hle : y.length ≤ x.length
                · have hleI : (y.length : Int) ≤ (x.length : Int) := by omega
                  have HMT : Hid (mostB N ps x ((setsL N).take (j + 1)) = true) := by
                    show _ = _
                    rw [HMS.out]; unfold mostStep; rw [decide_eq_true hle]; rfl
                  clear hle HMS
                  go_wp2_with fail
                  go_roundw
                  case rel => exact ⟨j + 1, by omega, by go_num, congrArg Value.bool HMT.out.symm, HBs⟩
                  case measure => simp [intOf]; omega
                · have hleI : ¬ (y.length : Int) ≤ (x.length : Int) := by omega
                  have HMT : Hid (mostB N ps x ((setsL N).take (j + 1)) = (!(cfL N ps y) || !(subL x y))) := by
                    show _ = _
                    rw [HMS.out]; unfold mostStep; rw [decide_eq_false hle]; rfl
                  clear hle HMS
                  go_wp2_with fail
                  refine (raConflictFree_any N _ _ ps y _ HWs.out.p HOK.out (by have := HPS.out; omega) HY.out (by have := HYL.out; omega)).mono ?_
                  rw [show (setB N y && cfX ps (memB y)) = cfL N ps y from rfl]
                  rintro e w9 ⟨rfl, hb9⟩
                  have HB9 := hidIt (HBs.out.trans (Below.mono hb9 HBs.out.size))
                  cases hcf : cfL N ps y
                  · rw [hcf] at HMT
                    clear hcf x0 x1 lx cj lb2
                    go_wp2_with fail
                    go_roundw
                    case rel => exact ⟨j + 1, by omega, by go_num, congrArg Value.bool HMT.out.symm, HB9⟩
                    case measure => simp [intOf]; omega
                  · rw [hcf] at HMT
                    have HY9 := hidIt (HY.out.below hb9)
                    have HX9 := hidIt (HXs.out.below hb9)
                    clear hcf x0 x1 lx cj lb2
                    go_wp2_with fail
                    refine (kInside_any _ _ x y _ HX9.out HY9.out (by have := HXL.out; omega) (by have := HYL.out; omega)).mono ?_
                    rintro e w10 ⟨rfl, rfl⟩
                    cases hsu : subL x y
                    · rw [hsu] at HMT
                      clear hsu
                      go_wp2_with fail
                      go_roundw
                      case rel => exact ⟨j + 1, by omega, by go_num, congrArg Value.bool HMT.out.symm, HB9⟩
                      case measure => simp [intOf]; omega
                    · rw [hsu] at HMT
                      clear hsu
                      go_wp2_with fail
                      go_roundw
                      case rel => exact ⟨j + 1, by omega, by go_num, congrArg Value.bool HMT.out.symm, HB9⟩
                      case measure => simp [intOf]; omega
            · have hjI : ¬ (j : Int) < (M : Int) := by omega
              rw [List.take_of_length_le (show (setsL N).length ≤ j by have := HM.out; omega)]
              have HWTs := hidIt (HWT8.out.go HBs.out)
              clear HWT8 HBs HB8 HW8 HWs
              cases hmo : mostB N ps x (setsL N)
              · simp only [hmo, Bool.false_eq_true, if_false, List.append_nil] at HFS
                clear hmo
                go_wp2_with fail
                go_roundw
                case rel => exact ⟨k + 1, q, a6, c6, by omega, by go_num, rfl, by omega, (by have := HQL.out; rw [← HFS.out] at this; exact this), (by rw [HFS.out]; exact HWTs.out), HB7s⟩
                case measure => simp [intOf]; omega
              · simp only [hmo, if_true] at HFS
                clear hmo
                obtain ⟨vals, hv1, hv2, hv3⟩ := HWTs.out
                have hgr := bgrow wr (.cells #[.slice xa x.length xc] 25)
                have HV1 : Hid (World.ownsRow (wr.alloc (.cells #[.slice xa x.length xc] 25)) w7.heap.size 25 1 (.slice a6 q c6) q vals) := by
                  have := owns_kept hv1 fun g e => hgr.block g (owns_blk hv1 g e).2
                  rwa [HQL.out] at this
                have HV2 := hidIt hv2
                have HV3 := hidIt hv3
                have HB10 := hidIt (HB7s.out.trans (Below.mono hgr HB7s.out.size))
                have hsz10 : w7.heap.size ≤ (wr.alloc (.cells #[.slice xa x.length xc] 25)).heap.size := HB10.out.size
                clear hv1 hv2 hv3 hgr
                go_wp2_with (at_builtin; refine Hid.out ?_)
                refine hidIt ?_
                refine wpList_append_kb rfl (.tmp 84) (.tmp 86) elemLL rfl w7.heap.size (.slice a6 q c6) q _ rfl HV1.out _ 1 rfl #[.slice xa x.length xc] 25 (heap_alloc_new _ _) rfl (one_of (by rfl)) (by omega) hsz10 ?_
                intro g11 c11 w11 hown11 hg11 hbl11
                have HB11 := hidIt (below_app5 HB10.out hg11 (fun g e => (owns_blk HV1.out g e).1) hsz10)
                have HW11 : Hid (WantR w7 w11 (.slice (some ⟨g11, 0, none⟩) (q + 1) c11) (((setsL N).take (k + 1)).filter fun x => mostB N ps x (setsL N))) := by
                  show WantR _ _ _ _
                  rw [HFS.out]
                  exact WantR.app HV2.out HV3.out HX7.out (by rw [HQL.out]; exact hown11)
                have HL11 : Hid ((((setsL N).take (k + 1)).filter fun x => mostB N ps x (setsL N)).length = q + 1) := by
                  show _ = _
                  rw [HFS.out, List.length_append, HQL.out]; rfl
                clear hown11 hg11 hbl11 HV1 HV2 HV3 HB10 hsz10
                go_wp2_with fail
                go_roundw
                case rel => exact ⟨k + 1, q + 1, some ⟨g11, 0, none⟩, c11, by omega, by go_num, rfl, by omega, HL11, HW11, HB11⟩
                case measure => simp [intOf]; omega
        · have hkI : ¬ (k : Int) < (M : Int) := by omega
          have HNL : Hid (LL wr (.slice a6 q c6) (naivesL N ps)) := by
            have := HWT.out.ll HBr.out
            rwa [List.take_of_length_le (by have := HM.out; omega)] at this
          have HNW : Hid ((naivesL N ps).length = q) := by
            have := HQL.out
            rwa [List.take_of_length_le (by have := HM.out; omega)] at this
          have hq64 : q ≤ 64 := by omega
          have HLWr := hidIt (HLW7.out.below HBr.out)
          have HBA := hidIt (HWr.out.b)
          clear HWT HQL HC7 HW7 HBr hqk HLW7
          go_wp2_with fail
          refine (comp_exact N hN _ ps _ HWr.out.p HOK.out HPS.out HWr.out.t).mono ?_
          rintro e w12 ⟨hb12, ca, cl, cc, ck, rfl, hck⟩
          have HW12 := hidIt (HWr.out.go hb12)
          have HLW12 := hidIt (HLWr.out.below hb12)
          have HNL12 := hidIt (HNL.out.below hb12)
          have HCK := hidIt hck
          clear hb12 hck x0 x1 lx HWr HLWr HNL HBA hkI hlt hk hk0 hM64 HM
          have x0 := HW12.out.c0
          have x1 := HW12.out.c1
          have lx := HW12.out.l
          go_wp2_with fail
          refine (naive_exact N hN _ ps _ HW12.out.p HOK.out HPS.out HW12.out.t).mono ?_
          rintro e w13 ⟨hb13, ns, na, nl, nc, rfl, hnl, hnn, hnl2, hNL⟩
          have HW13 := hidIt (HW12.out.go hb13)
          have HLW13 := hidIt (HLW12.out.below hb13)
          have HNL13 := hidIt (HNL12.out.below hb13)
          have HCK13 : Hid ((ck = 0 ∧ LL w13 (.slice ca cl cc) (compsL N ps) ∧ (compsL N ps).length ≤ 200) ∨ (ck = 2 ∧ 200 < (compsL N ps).length)) := by
            rcases HCK.out with ⟨h1, h2, h3⟩ | h1
            · exact .inl ⟨h1, h2.below hb13, h3⟩
            · exact .inr h1
          have HNS13 := hidIt hnl
          have HNN := hidIt hnn
          have HNLL := hidIt hNL
          clear hb13 hnl hnn hNL x0 x1 lx HW12 HLW12 HNL12 HCK
          have hnq : nl = q := by rw [HNS13.out.cut.1, HNN.out]; exact HNW.out
          subst hnq
          rcases HCK13.out with ⟨rfl, hcl, h200⟩ | ⟨rfl, hmore⟩
          · have hm2 : ¬ (200 : Int) < (m : Int) := by have := HWL.out; omega
            have HCL := hidIt hcl
            have HC200 := hidIt h200
            clear hcl h200 HCK13
            go_wp2_with fail
            refine (kLists_any _ _ (compsL N ps) (compsL N ps) _ HCL.out HLW13.out (by have := HC200.out; omega) (by have := HC200.out; omega) (fun x hx => by have := labsL_at (List.mem_filter.1 hx).1; omega) (fun x hx => by have := labsL_at (List.mem_filter.1 hx).1; omega)).mono ?_
            rw [decide_eq_true rfl]
            rintro e w14 ⟨rfl, hb14⟩
            have HW14 := hidIt (HW13.out.go hb14)
            have HN14 := hidIt (HNS13.out.below hb14)
            have HV14 := hidIt (HNL13.out.below hb14)
            clear HCL HC200 hb14 HNS13 HNL13 HLW13 HW13 HWL hm2 hm729
            go_wp2_with fail
            have HEN := hidIt HN14.out.cut.1
            have HFN := hidIt HN14.out.cut.2
            have HEV := hidIt HV14.out.cut.1
            have HFV := hidIt HV14.out.cut.2
            clear HN14 HV14 HNN HNW
            go_loopw [19, 20, 21, 23, 128] (fun _ _ _ _ i wr => ∃ k : Nat, k ≤ nl ∧ i = .int .i64 k ∧ Hid (Below w14.heap.size w14 wr)) (fun _ _ _ _ i _ => nl - (intOf i).toNat)
            case atStart => exact ⟨0, Nat.zero_le _, (by first | rfl | trivial), Below.refl _ _⟩
            case round =>
              obtain ⟨k, hk, rfl, HBr⟩ := hrel
              have hk0 : (0 : Int) ≤ (k : Int) := by omega
              by_cases hlt : k < nl
              · have hkI : (k : Int) < (nl : Int) := by omega
                have hkl : k < ns.length := by have := HEN.out; omega
                obtain ⟨b, off, xa, xn, xc, rfl, lb, cc, hi⟩ := HFN.out k hkl
                have cy := (Below.cell (p := ⟨b, off + k, none⟩) HBr.out lb).trans cc
                have lb2 := Nat.lt_of_lt_of_le lb HBr.out.size
                have HNX := hidIt ((HNLL.out.mem _).1 (List.getElem_mem hkl))
                have HXL : Hid (ns[k].length ≤ N) := setB_len HNX.out.1
                have HXM : Hid (ns[k] ∈ naivesL N ps) := (naives_mem HOK.out hN _).2 HNX.out
                have HUK : Hid (∀ j (hj : j < ns.length), k = j + 1 → cmpF ns[j] ns[k] < 0 ∧ ns[j].length ≤ N) := fun j hj e => ⟨List.pairwise_iff_getElem.1 HNLL.out.up j k hj hkl (by omega), setB_len ((HNLL.out.mem _).1 (List.getElem_mem hj)).1⟩
                have HX14 := hidIt hi
                clear cc hi HNX
                generalize ns[k] = x at *
                go_wp2_with fail
                clear cy lb2 lb
                go_loopw [21, 23, 135] (fun v21 _ i ws => ∃ j : Nat, j ≤ nl ∧ i = .int .i64 j ∧ v21 = .bool (decide (x ∈ (naivesL N ps).take j)) ∧ Hid (Below w14.heap.size w14 ws)) (fun _ _ i _ => nl - (intOf i).toNat)
                case atStart => exact ⟨0, Nat.zero_le _, (by first | rfl | trivial), congrArg Value.bool (by rw [List.take_zero]; exact (decide_eq_false (List.not_mem_nil)).symm), HBr.out⟩
                case round =>
                  obtain ⟨j, hj, rfl, rfl, HBs⟩ := hrel
                  have hj0 : (0 : Int) ≤ (j : Int) := by omega
                  by_cases hltj : j < nl
                  · have hjI : (j : Int) < (nl : Int) := by omega
                    have hjl : j < (naivesL N ps).length := by have := HEV.out; omega
                    obtain ⟨b', off', ya, yn, yc, rfl, lb', cc', hi'⟩ := HFV.out j hjl
                    have cj := (Below.cell (p := ⟨b', off' + j, none⟩) HBs.out lb').trans cc'
                    have lb2 := Nat.lt_of_lt_of_le lb' HBs.out.size
                    have HYL : Hid ((naivesL N ps)[j].length ≤ N) := setB_len ((naives_mem HOK.out hN _).1 (List.getElem_mem hjl)).1
                    have HMS : Hid (decide (x ∈ (naivesL N ps).take (j + 1)) = (decide (x ∈ (naivesL N ps).take j) || decide (x = (naivesL N ps)[j]))) := by
                      show _ = _
                      rw [List.take_succ_eq_append_getElem hjl]
                      simp only [List.mem_append, List.mem_singleton, Bool.decide_or]
                    have HY := hidIt (hi'.below HBs.out)
                    have HXs := hidIt (HX14.out.below HBs.out)
                    clear cc' hi' lb'
                    generalize (naivesL N ps)[j] = y at *
                    cases hmo : decide (x ∈ (naivesL N ps).take j)
                    · rw [hmo, Bool.false_or] at HMS
                      clear hmo
                      go_wp2_with fail
                      refine (kInts_any _ _ x y _ HXs.out HY.out (by have := HXL.out; omega) (by have := HYL.out; omega)).mono ?_
                      rintro e w15 ⟨rfl, hb15⟩
                      have HB15 := hidIt (HBs.out.trans (Below.mono hb15 HBs.out.size))
                      go_wp2_with fail
                      go_roundw
                      case rel => exact ⟨j + 1, by omega, by go_num, congrArg Value.bool HMS.out.symm, HB15⟩
                      case measure => simp [intOf]; omega
                    · rw [hmo, Bool.true_or] at HMS
                      clear hmo
                      go_wp2_with fail
                      go_roundw
                      case rel => exact ⟨j + 1, by omega, by go_num, congrArg Value.bool HMS.out.symm, HBs⟩
                      case measure => simp [intOf]; omega
                  · have hjI : ¬ (j : Int) < (nl : Int) := by omega
                    rw [List.take_of_length_le (show (naivesL N ps).length ≤ j by have := HEV.out; omega), decide_eq_true HXM.out]
                    clear HBr
                    by_cases hk1 : 0 < k
                    · obtain ⟨i, rfl⟩ : ∃ i, k = i + 1 := ⟨k - 1, by omega⟩
                      have hi1 : i < ns.length := by have := HEN.out; omega
                      obtain ⟨hcm, hil⟩ := HUK.out i hi1 rfl
                      obtain ⟨b', off', ua', un', uc', he, lb', cc', hi'⟩ := HFN.out i hi1
                      injection he with he
                      injection he with he1 he2
                      subst he1 he2
                      have ci := (Below.cell (p := ⟨b, off + i, none⟩) HBs.out lb').trans cc'
                      have lb2 := Nat.lt_of_lt_of_le lb' HBs.out.size
                      have HZ' := hidIt (hi'.below HBs.out)
                      have HXs := hidIt (HX14.out.below HBs.out)
                      have HCM := hidIt hcm
                      have HIL := hidIt hil
                      have hgt : (0 : Int) < ((i + 1 : Nat) : Int) := by omega
                      have hsub : ((i + 1 : Nat) : Int) - 1 = (i : Int) := by omega
                      have hi0 : (0 : Int) ≤ (i : Int) := by omega
                      have hiI : (i : Int) < (nl : Int) := by omega
                      have hsubw : IntKind.i64.wrap (((i + 1 : Nat) : Int) - 1) = (i : Int) := by rw [hsub]; exact IntWalk.i64_in _ (by omega)
                      clear cc' hi' hcm hil hk1 lb'
                      generalize ns[i] = z at *
                      go_wp2_with fail
                      refine (lCompare_any _ _ z x _ HZ'.out HXs.out (by have := HIL.out; omega) (by have := HXL.out; omega)).mono ?_
                      rintro e w15 ⟨rfl, hb15⟩
                      have HB15 := hidIt (HBs.out.trans (Below.mono hb15 HBs.out.size))
                      have hcmv := HCM.out
                      have hnge : ¬ cmpF z x ≥ 0 := by omega
                      go_wp2_with fail
                      go_roundw
                      case rel => exact ⟨i + 1 + 1, by omega, by go_num, HB15⟩
                      case measure => simp [intOf]; omega
                    · obtain rfl : k = 0 := by omega
                      go_wp2_with fail
                      go_roundw
                      case rel => exact ⟨0 + 1, by omega, by go_num, HBs⟩
                      case measure => simp [intOf]; omega
              · have hkI : ¬ (k : Int) < (nl : Int) := by omega
                have HWr := hidIt (HW14.out.go HBr.out)
                go_wp2_with fail
                refine (awake14_any _ HWr.out.t).mono ?_
                rintro e w15 ⟨rfl, hb15⟩
                go_wp2_with fail
                go_ret
                exact ⟨rfl, HWr.out.b.trans (Below.mono hb15 HWr.out.b.size)⟩
          · have hm2 : (200 : Int) < (m : Int) := by have := HWL.out; omega
            clear hmore HCK13
            go_wp2_with fail
            refine (awake14_any _ HW13.out.t).mono ?_
            rintro e w14 ⟨rfl, hb14⟩
            go_wp2_with fail
            go_ret
            exact ⟨rfl, HW13.out.b.trans (Below.mono hb14 HW13.out.b.size)⟩
end Go.Proofs.YtfiaoibfejginaaDoor
