/- What the laws of chapter 13 keep of memory; what follows for lists. The reference's functions on sets: hit, ConflictFree, Defends. The reference's Admissible, IsComplete, Range, IsStable. The law's insert: ascending numbers with one more. The law SearchLarge: for every list of numbers it answers true. -/
import Derived.Test.YtfiaoibfejginaaDoorNew
import Derived.Test.YtfiaoibfejginaaDoorG1I
import Derived.Test.YtfiaoibfejginaaDoorZ3R
import Derived.BigQuiet
import Derived.Test.YtfiaoibfejginaaDoorZ3N
import Derived.Test.YtfiaoibfejginaaDoorG0I
import Derived.Test.YtfiaoibfejginaaDoorG0H
import Derived.Test.YtfiaoibfejginaaDoorRelN
import Derived.Test.YtfiaoibfejginaaDoorRelS
import Derived.Test.YtfiaoibfejginaaDoorG0A
import Derived.Test.YtfiaoibfejginaaDoorZ3D
import Derived.Deep.CutRange

namespace Go.Proofs.YtfiaoibfejginaaDoor
set_option linter.unusedVariables false
set_option linter.unusedSimpArgs false
open Go Go.RowKit Go.Sort

/-- The law's graph lies in its box; the library's table lies. -/
structure LW (w0 : World) (G N : Nat) (a : Option Addr) (c : Nat) (ps : List (Int × Int)) (w : World) : Prop where
  x : w.heap[G]? = some (.cells #[.int .i64 (N : Int), .slice a ps.length c] 24 (0, 0))
  p : PairsAt w (.slice a ps.length c) ps
  t : Tab w
  b : Below w0.heap.size w0 w
theorem LW.go {w0 : World} {G N : Nat} {a : Option Addr} {c : Nat} {ps : List (Int × Int)} {w w' : World} (h : LW w0 G N a c ps w) (hb : Below w.heap.size w w') : LW w0 G N a c ps w' :=
  ⟨blk_kept2 h.x hb, h.p.below hb, h.t.go hb, h.b.trans (Below.mono hb h.b.size)⟩
theorem LW.c0 {w0 : World} {G N : Nat} {a : Option Addr} {c : Nat} {ps : List (Int × Int)} {w : World} (h : LW w0 G N a c ps w) : w.cell? ⟨G, 0, none⟩ = some (.int .i64 (N : Int)) := cell_two0 h.x
theorem LW.c1 {w0 : World} {G N : Nat} {a : Option Addr} {c : Nat} {ps : List (Int × Int)} {w : World} (h : LW w0 G N a c ps w) : w.cell? ⟨G, 1, none⟩ = some (.slice a ps.length c) := cell_two1 h.x
theorem LW.l {w0 : World} {G N : Nat} {a : Option Addr} {c : Nat} {ps : List (Int × Int)} {w : World} (h : LW w0 G N a c ps w) : G < w.heap.size := lt_of_block h.x
theorem below_read13 {w a a' : World} {b : Nat} (h : Below b w a) (hg : a.grownBy a' (some b)) (hna : b ≤ a.heap.size) : Below b w a' := below_app5 h hg (fun g e => by injection e with e; omega) hna

section
variable {N : Nat} {ps : List (Int × Int)} (hix : ∀ p ∈ ps, (0 ≤ p.1 ∧ p.1 < (N : Int)) ∧ (0 ≤ p.2 ∧ p.2 < (N : Int)))
include hix
end
end Go.Proofs.YtfiaoibfejginaaDoor

namespace Go.Proofs.YtfiaoibfejginaaDoor
set_option linter.unusedVariables false
set_option linter.unusedSimpArgs false
open Go Go.RowKit Go.Sort

theorem any_step13 {xs : List Int} {k : Nat} (h : k < xs.length) (f : Int → Bool) : (xs.take (k + 1)).any f = ((xs.take k).any f || f xs[k]) := by
  rw [List.take_succ_eq_append_getElem h, List.any_append]
  simp
theorem hit_list {N : Nat} {ps : List (Int × Int)} (hix : ∀ p ∈ ps, (0 ≤ p.1 ∧ p.1 < (N : Int)) ∧ (0 ≤ p.2 ∧ p.2 < (N : Int))) (x : List Int) (i : Nat) : hitX ps (memB x) i = x.any fun z => decide ((z, (i : Int)) ∈ ps) := by
  rw [Bool.eq_iff_iff, hitX_iff hix, List.any_eq_true]
  constructor
  · rintro ⟨k, hk, hx⟩
    exact ⟨(k : Int), of_decide_eq_true hx, decide_eq_true hk⟩
  · rintro ⟨z, hz, hp⟩
    have hp := of_decide_eq_true hp
    have := hix _ hp
    simp only at this
    obtain ⟨k, rfl⟩ : ∃ k : Nat, z = (k : Int) := ⟨z.toNat, by omega⟩
    exact ⟨k, hp, decide_eq_true hz⟩
theorem cf_list {N : Nat} {ps : List (Int × Int)} (hix : ∀ p ∈ ps, (0 ≤ p.1 ∧ p.1 < (N : Int)) ∧ (0 ≤ p.2 ∧ p.2 < (N : Int))) (x : List Int) : cfX ps (memB x) = !(x.any fun a => x.any fun b => decide ((a, b) ∈ ps)) := by
  rw [Bool.eq_iff_iff, cfX_iff hix, Bool.not_eq_true', List.any_eq_false]
  constructor
  · intro h a ha hb
    obtain ⟨b, hb, hp⟩ := List.any_eq_true.1 hb
    have hp := of_decide_eq_true hp
    have := hix _ hp
    simp only at this
    obtain ⟨k, rfl⟩ : ∃ k : Nat, a = (k : Int) := ⟨a.toNat, by omega⟩
    obtain ⟨i, rfl⟩ : ∃ i : Nat, b = (i : Int) := ⟨b.toNat, by omega⟩
    exact h k i hp (decide_eq_true ha) (decide_eq_true hb)
  · intro h k i hk h1 h2
    exact h _ (of_decide_eq_true h1) (List.any_eq_true.2 ⟨_, of_decide_eq_true h2, decide_eq_true hk⟩)
theorem df_list {N : Nat} {ps : List (Int × Int)} (hix : ∀ p ∈ ps, (0 ≤ p.1 ∧ p.1 < (N : Int)) ∧ (0 ≤ p.2 ∧ p.2 < (N : Int))) (X : Nat → Bool) (i : Nat) : dfX ps X i = !((inL ps (i : Int)).any fun z => !(hitX ps X z.toNat)) := by
  rw [Bool.eq_iff_iff, dfX_iff hix, Bool.not_eq_true', List.any_eq_false]
  unfold inL
  constructor
  · intro h z hz
    rw [List.mem_map] at hz
    obtain ⟨p, hp, rfl⟩ := hz
    obtain ⟨hp, he⟩ := List.mem_filter.1 hp
    have hr := hix p hp
    have he := beq_iff_eq.1 he
    have e2 : ((p.1.toNat : Int), (i : Int)) = p := Prod.ext (by simp only; omega) he.symm
    rw [(hitX_iff hix).2 (h p.1.toNat (by unfold At; rw [e2]; exact hp))]
    decide
  · intro h k hk
    have := h (k : Int) (List.mem_map.2 ⟨_, List.mem_filter.2 ⟨hk, beq_iff_eq.2 rfl⟩, rfl⟩)
    rw [Int.toNat_natCast] at this
    exact (hitX_iff hix).1 (by simpa using this)

set_option maxRecDepth 100000 in
set_option maxHeartbeats 2000000 in
theorem raConflictFree_any (N : Nat) (v v2 : Value) (ps : List (Int × Int)) (x : List Int) (w : World) (h : PairsAt w v ps) (hok : GOk (N : Int) ps) (hpl : ps.length ≤ 100000) (hs : IL w v2 x) (hsl : x.length ≤ 100000) :
    Calls Tryd.prog 21 #[.agg #[.int .i64 (N : Int), v], v2] w fun e w' => e = .returned (.bool (setB N x && cfX ps (memB x))) ∧ Below w.heap.size w w' := by
  have hB := bgrow w (.cells #[.int .i64 (N : Int), v] 24)
  have H1 := hidIt (h.below hB)
  have H2 := hidIt (hs.below hB)
  obtain ⟨a, c, rfl, -⟩ := h.form
  obtain ⟨a2, c2, rfl, k2⟩ := (hs.below hB).ic
  have K2 := hidIt k2
  have HX := hidIt (heap_alloc_new w (.cells #[.int .i64 (N : Int), .slice a ps.length c] 24))
  have HB := hidIt hB
  have HVL := hidIt (vL_of hok)
  have HPL := hidIt hpl
  have HSL := hidIt hsl
  have HM : Hid (∀ r, (setB N x && cfX ps (memB x)) = r ↔ (setB N x && !(x.any fun a => x.any fun b => decide ((a, b) ∈ ps))) = r) := fun r => by rw [cf_list hok.ix]
  generalize (setB N x && cfX ps (memB x)) = R at *
  generalize hf : (fun a b : Int => decide ((a, b) ∈ ps)) = f
  have HM1 : Hid (R = (setB N x && !(x.any fun a => x.any (f a)))) := by
    show _ = _
    rw [← hf]
    exact ((HM.out R).1 rfl).symm
  have HFF : Hid (∀ a b : Int, decide ((a, b) ∈ ps) = f a b) := fun a b => by rw [← hf]
  clear h hs hB k2 hok hpl hf HM
  go_enter Tryd.func21, Tryd.ntmps21
  go_upto_region 1 with (fail)
  generalize (w.alloc (.cells #[.int .i64 (N : Int), .slice a ps.length c] 24)) = w1 at *
  generalize w.heap.size = P at HX ⊢
  obtain ⟨M, hM⟩ : ∃ M, M = x.length := ⟨_, rfl⟩
  have HML := hidIt hM
  rw [← hM] at hsl H2 ⊢
  clear hM
  go_wp2_with fail
  go_loopw [5, 6] (fun i _ wr => ∃ k : Nat, k ≤ M ∧ i = .int .i64 k ∧ Hid (Below w1.heap.size w1 wr) ∧ Hid ((x.take k).any (fun a => x.any (f a)) = false)) (fun i _ _ => M - (intOf i).toNat)
  case atStart => exact ⟨0, Nat.zero_le _, (by first | rfl | trivial), Below.refl _ _, (rfl : (([] : List Int).any _) = false)⟩
  case round =>
    obtain ⟨k, hk, rfl, HBr, HT⟩ := hrel
    have hkI0 : (0 : Int) ≤ (k : Int) := by omega
    by_cases hlt : k < M
    · have hkI : (k : Int) < (M : Int) := by omega
      have h1x : k < x.length := by have := HML.out; omega
      have HST := hidIt (any_step13 h1x (fun a => x.any (f a)))
      have HKX := hidIt (List.getElem_mem h1x)
      have HGE : Hid (∀ w3 : World, Below w1.heap.size w1 w3 → ∃ b o, a2 = some ⟨b, o, none⟩ ∧ b < w3.heap.size ∧ w3.cell? ⟨b, o + k, none⟩ = some (.int .i64 x[k])) := fun w3 h => by
        obtain ⟨b, o, e, l, hc⟩ := (K2.out.go h).at_ h1x
        exact ⟨b, o, e, l, hc k h1x⟩
      generalize x[k] = z at *
      clear h1x
      go_wp2_with fail
      go_loopw [6] (fun j w' => ∃ q : Nat, q ≤ M ∧ j = .int .i64 q ∧ Hid (Below w1.heap.size w1 w') ∧ Hid ((x.take q).any (f z) = false)) (fun j _ => M - (intOf j).toNat)
      case atStart => exact ⟨0, Nat.zero_le _, (by first | rfl | trivial), HBr.out, (rfl : (([] : List Int).any _) = false)⟩
      case round =>
        clear HBr
        obtain ⟨q, hq, rfl, HBr, HTq⟩ := hrel
        have hqI0 : (0 : Int) ≤ (q : Int) := by omega
        by_cases hqt : q < M
        · have hqI : (q : Int) < (M : Int) := by omega
          have h1q : q < x.length := by have := HML.out; omega
          have HXr := hidIt (blk_kept2 HX.out HBr.out)
          obtain ⟨b1, o1, rfl, l1, p0⟩ := HGE.out wr HBr.out
          have q0 : wr.cell? ⟨b1, o1 + q, none⟩ = some (.int .i64 x[q]) := by
            obtain ⟨b', o', he, -, hc⟩ := (K2.out.go HBr.out).at_ h1q
            injection he with he
            injection he with he1 he2
            subst he1 he2
            exact hc q h1q
          have HSQ := hidIt (any_step13 h1q (f z))
          have HTL : Hid (f z x[q] = true → x.any (fun a => x.any (f a)) = true) := fun h => List.any_eq_true.2 ⟨z, HKX.out, List.any_eq_true.2 ⟨_, List.getElem_mem h1q, h⟩⟩
          generalize x[q] = y at *
          clear h1q
          have x0 := cell_two0 HXr.out
          have x1 := cell_two1 HXr.out
          have lx := lt_of_block HXr.out
          have X0 := fun y => Ext.cell x0 y
          have X1 := fun y => Ext.cell x1 y
          have P0 := fun y => Ext.cell p0 y
          have Q0 := fun y => Ext.cell q0 y
          have LX := fun y : In (Ext wr) => Nat.lt_of_lt_of_le lx (Below.size y.h)
          have LP := fun y : In (Ext wr) => Nat.lt_of_lt_of_le l1 (Below.size y.h)
          have HC : Hid (∀ wx : World, Ext wr wx → Calls Tryd.prog 41 #[.agg #[.int .i64 (N : Int), .slice a ps.length c], .int .i64 z, .int .i64 y] wx fun e w' => e = .returned (.bool (f z y)) ∧ Below wx.heap.size wx w') := fun wx hC => by
            have := rgHas_any (N : Int) _ ps z y wx ((H1.out.below HBr.out).below hC) (by have := HPL.out; omega)
            rw [HVL.out, HFF.out z y] at this
            exact this
          cases hfz : f z y
          · have HE : Hid ((x.take (q + 1)).any (f z) = false) := by show _ = _; rw [HSQ.out, HTq.out, hfz]; rfl
            rw [hfz] at HC
            clear hfz
            go_wp2_with fail
            haveI := Ext.nonempty wr
            refine wp_region_in (Ext wr) (by kernel_rfl) (by kernel_rfl) (Ext.start wr) ?_
            repeat (go_big_quiet_step ((go_at_call 41; refine Ext.call (HC.out _ (In.h _)))))
            refine wpQuiet_nil ?_
            rintro w5 ⟨⟨_, h5⟩, rfl⟩
            have HB5 := hidIt (HBr.out.trans (Below.mono h5 HBr.out.size))
            clear h5 X0 X1 P0 Q0 LX LP x0 x1 lx p0 q0 l1
            go_wp2_with fail
            go_roundw
            case rel => exact ⟨q + 1, by omega, by go_num, HB5.out, HE.out⟩
            case measure => simp [intOf]; omega
          · have HE : Hid (R = false) := by
              show _ = _
              rw [HM1.out, HTL.out hfz, Bool.not_true, Bool.and_false]
            rw [hfz] at HC
            clear hfz
            go_wp2_with fail
            haveI := Ext.nonempty wr
            refine wp_region_in (Ext wr) (by kernel_rfl) (by kernel_rfl) (Ext.start wr) ?_
            repeat (go_big_quiet_step ((go_at_call 41; refine Ext.call (HC.out _ (In.h _)))))
            refine wpQuiet_nil ?_
            rintro w5 ⟨⟨_, h5⟩, rfl⟩
            have HB5 := hidIt (HB.out.trans (Below.mono (HBr.out.trans (Below.mono h5 HBr.out.size)) HB.out.size))
            clear h5 X0 X1 P0 Q0 LX LP x0 x1 lx p0 q0 l1
            go_wp2_with fail
            go_ret
            exact ⟨ret_bool HE.out.symm, HB5.out⟩
        · have hqI : ¬ (q : Int) < (M : Int) := by omega
          have HE : Hid ((x.take (k + 1)).any (fun a => x.any (f a)) = false) := by
            have := HTq.out
            rw [List.take_of_length_le (by have := HML.out; omega)] at this
            show _ = _
            rw [HST.out, HT.out, this]
            rfl
          go_wp2_with fail
          go_roundw
          case rel => exact ⟨k + 1, by omega, by go_num, HBr.out, HE.out⟩
          case measure => simp [intOf]; omega
    · have hkI : ¬ (k : Int) < (M : Int) := by omega
      have HE : Hid (R = setB N x) := by
        have := HT.out
        rw [List.take_of_length_le (by have := HML.out; omega)] at this
        show _ = _
        rw [HM1.out, this, Bool.not_false, Bool.and_true]
      have HXr := hidIt (blk_kept2 HX.out HBr.out)
      have x0 := cell_two0 HXr.out
      have x1 := cell_two1 HXr.out
      have lx := lt_of_block HXr.out
      go_wp2_with fail
      refine (raValid_any N _ _ ps x wr (H1.out.below HBr.out) (by have := H2.out.below HBr.out; rwa [HML.out] at this ⊢) HSL.out).mono ?_
      rintro e w5 ⟨rfl, hb5⟩
      have HB5 := hidIt (HB.out.trans (Below.mono (HBr.out.trans (Below.mono hb5 HBr.out.size)) HB.out.size))
      clear hb5
      go_wp2_with fail
      go_ret
      exact ⟨ret_bool HE.out.symm, HB5.out⟩

end Go.Proofs.YtfiaoibfejginaaDoor

namespace Go.Proofs.YtfiaoibfejginaaDoor
set_option linter.unusedVariables false
set_option linter.unusedSimpArgs false
open Go Go.RowKit Go.Sort

def isIq13 (m : Nat) (xs : List Int) : Value → World → Prop := fun v w => ∃ (a : Option Addr) (c : Nat), v = .slice a m c ∧ IL w (.slice a m c) xs
theorem isIq13_up (m : Nat) (xs : List Int) : GoesUp (isIq13 m xs) := fun _ _ _ hg ⟨a, c, h1, h2⟩ => ⟨a, c, h1, h2.below hg⟩
theorem isIq13_use {m : Nat} {xs : List Int} {a : Option Addr} {c : Nat} {w : World} (h : isIq13 m xs (.slice a m c) w) : IL w (.slice a m c) xs := by
  obtain ⟨a', c', h1, h2⟩ := h
  rw [h1]
  exact h2
end Go.Proofs.YtfiaoibfejginaaDoor

namespace Go.Proofs.YtfiaoibfejginaaDoor
set_option linter.unusedVariables false
set_option linter.unusedSimpArgs false
open Go Go.RowKit Go.Sort

def insF (n : Int) : List Int → List Int
  | [] => [n]
  | x :: r => if n < x then n :: x :: r else x :: insF n r
theorem insF_len (n : Int) : ∀ l : List Int, (insF n l).length = l.length + 1
  | [] => rfl
  | x :: r => by
    unfold insF
    split
    · rfl
    · rw [List.length_cons, insF_len n r, List.length_cons]
def restF (n : Int) (done : Bool) (l : List Int) : List Int := if done = true then l else insF n l
theorem ints_own {w : World} {B k c : Nat} {a : Option Addr} {zs : List Int} {z : Int} (h : OwnI w B (.slice a k c) zs) (hl : zs.length = k) : World.ownsRow (w.alloc (.cells #[.int .i64 z] 3)) B 3 1 (.slice a k c) k (zs.map (Value.int .i64)) := by
  have h2 := h.go (bgrow w (.cells #[.int .i64 z] 3))
  unfold OwnI at h2
  rwa [hl] at h2
theorem ints_done {w : World} {B k : Nat} {v : Value} {zs : List Int} {z : Int} (hl : zs.length = k) (h : World.ownsRow w B 3 1 v (k + 1) (zs.map (Value.int .i64) ++ [.int .i64 z])) : OwnI w B v (zs ++ [z]) := by
  show World.ownsRow _ _ _ _ _ _ _
  rw [List.length_append, hl, List.map_append]
  exact h

set_option maxRecDepth 100000 in
set_option maxHeartbeats 2000000 in
theorem insert_any (v : Value) (xs : List Int) (n : Int) (w : World) (h : IL w v xs) (hn : xs.length ≤ 1000) :
    Calls Tryd.prog 30 #[v, .int .i64 n] w fun e w' => ∃ (a : Option Addr) (c : Nat), e = .returned (.slice a (xs.length + 1) c) ∧ OwnI w' w.heap.size (.slice a (xs.length + 1) c) (insF n xs) ∧ Below w.heap.size w w' := by
  obtain ⟨a1, c1, rfl, k1⟩ := h.ic
  have K1 := hidIt k1
  clear k1 h
  obtain ⟨M, hM⟩ : ∃ M, M = xs.length := ⟨_, rfl⟩
  have HX := hidIt hM
  rw [← hM] at hn ⊢
  clear hM
  go_enter Tryd.func30, Tryd.ntmps30
  go_wp2_with fail
  go_loopw [5, 6, 8, 11] (fun v5 v6 _ i wr => ∃ (k L : Nat) (d : Bool) (zs : List Int) (a : Option Addr) (c : Nat), k ≤ M ∧ L ≤ k + 1 ∧ Hid (L = k + if d = true then 1 else 0) ∧ v5 = .slice a L c ∧ v6 = .bool d ∧ i = .int .i64 k ∧ Hid (zs.length = L) ∧ Hid (zs ++ restF n d (xs.drop k) = insF n xs) ∧ Hid (OwnI wr w.heap.size (.slice a L c) zs) ∧ Hid (Below w.heap.size w wr)) (fun _ _ _ i _ => M - (intOf i).toNat)
  case atStart => exact ⟨0, 0, false, [], none, 0, Nat.zero_le _, Nat.zero_le _, (rfl : (0 : Nat) = 0 + if false = true then 1 else 0), rfl, rfl, (by first | rfl | trivial), (rfl : ([] : List Int).length = 0), (rfl : _ = _), OwnI.nil _ _, Below.refl _ _⟩
  case round =>
    obtain ⟨k, L, d, zs, a, c, hk, hL, HLK, rfl, rfl, rfl, HZ, HR, HO, HB⟩ := hrel
    have hkI0 : (0 : Int) ≤ (k : Int) := by omega
    by_cases hlt : k < M
    · have hkI : (k : Int) < (M : Int) := by omega
      have hkx : k < xs.length := by rw [← HX.out]; exact hlt
      obtain ⟨b1, o1, rfl, l1, hc1⟩ := (K1.out.go HB.out).at_ hkx
      have p0 := hc1 k hkx
      have HDR : Hid (xs.drop k = xs[k] :: xs.drop (k + 1)) := List.drop_eq_getElem_cons hkx
      clear hc1
      generalize xs[k] = x at *
      rw [HDR.out] at HR
      clear hkx
      by_cases hs : d = false ∧ n < x
      · obtain ⟨rfl, hnx⟩ := hs
        have hLk : L ≤ k := Nat.le_of_eq HLK.out
        have hgt : x > n := hnx
        have HR2 : Hid (((zs ++ [n]) ++ [x]) ++ restF n true (xs.drop (k + 1)) = insF n xs) := by
          have := HR.out
          rw [show restF n false (x :: xs.drop (k + 1)) = n :: x :: xs.drop (k + 1) by unfold restF; rw [if_neg (by decide), insF, if_pos hnx]] at this
          show _ = _
          rw [show restF n true (xs.drop (k + 1)) = xs.drop (k + 1) from if_pos rfl, ← this]
          simp
        have HO7 := hidIt (ints_own (z := n) HO.out HZ.out)
        have HB7 := hidIt (HB.out.trans (Below.mono (bgrow wr (.cells #[.int .i64 n] 3)) HB.out.size))
        have hsz7 : w.heap.size ≤ (wr.alloc (.cells #[.int .i64 n] 3)).heap.size := HB7.out.size
        have lb2 := Nat.lt_of_lt_of_le l1 (bgrow wr (.cells #[.int .i64 n] 3)).size
        clear HR HDR
        go_wp2_with (at_builtin; refine Hid.out ?_)
        refine hidIt ?_
        refine wpList_append_kb rfl (.tmp 22) (.tmp 24) elemI rfl w.heap.size (.slice a L c) L _ rfl HO7.out _ 1 rfl #[.int .i64 n] 3 (heap_alloc_new _ _) rfl (one_of (by rfl)) (by omega) hsz7 ?_
        intro g8 c8 w8 hown8 hg8 hbl8
        have HB8 := hidIt (below_app5 HB7.out hg8 (fun g e => (owns_blk HO7.out g e).1) hsz7)
        have HO8 := hidIt (ints_done HZ.out hown8)
        have HZ8 : Hid ((zs ++ [n]).length = L + 1) := by show _ = _; rw [List.length_append, HZ.out]; rfl
        clear hown8 hg8 hbl8 HO7 HB7 hsz7 lb2 HO HB p0 l1
        generalize zs ++ [n] = ys at *
        have HO9 := hidIt (ints_own (z := x) HO8.out HZ8.out)
        have HB9 := hidIt (HB8.out.trans (Below.mono (bgrow w8 (.cells #[.int .i64 x] 3)) HB8.out.size))
        have hsz9 : w.heap.size ≤ (w8.alloc (.cells #[.int .i64 x] 3)).heap.size := HB9.out.size
        go_wp2_with (at_builtin; refine Hid.out ?_)
        refine hidIt ?_
        refine wpList_append_kb rfl (.tmp 26) (.tmp 28) elemI rfl w.heap.size (.slice (some ⟨g8, 0, none⟩) (L + 1) c8) (L + 1) _ rfl HO9.out _ 1 rfl #[.int .i64 x] 3 (heap_alloc_new _ _) rfl (one_of (by rfl)) (by omega) hsz9 ?_
        intro g10 c10 w10 hown10 hg10 hbl10
        have HB10 := hidIt (below_app5 HB9.out hg10 (fun g e => (owns_blk HO9.out g e).1) hsz9)
        have HO10 := hidIt (ints_done HZ8.out hown10)
        have HZ10 : Hid ((ys ++ [x]).length = L + 1 + 1) := by show _ = _; rw [List.length_append, HZ8.out]; rfl
        clear hown10 hg10 hbl10 HO9 HB9 hsz9 HO8 HB8
        go_wp2_with fail
        go_roundw
        case rel => exact ⟨k + 1, L + 1 + 1, true, ys ++ [x], some ⟨g10, 0, none⟩, c10, by omega, by omega, (by have h14 : L = k + 0 := HLK.out; show L + 1 + 1 = k + 1 + 1; omega), rfl, rfl, by go_num, HZ10, HR2, HO10, HB10⟩
        case measure => simp [intOf]; omega
      · have HR2 : Hid ((zs ++ [x]) ++ restF n d (xs.drop (k + 1)) = insF n xs) := by
          have := HR.out
          show _ = _
          rw [← this, List.append_assoc]
          congr 1
          cases d
          · unfold restF
            rw [if_neg (by decide), if_neg (by decide)]
            show _ = insF n (x :: xs.drop (k + 1))
            rw [insF, if_neg (fun h => hs ⟨rfl, h⟩)]
            rfl
          · rfl
        have HO9 := hidIt (ints_own (z := x) HO.out HZ.out)
        have HB9 := hidIt (HB.out.trans (Below.mono (bgrow wr (.cells #[.int .i64 x] 3)) HB.out.size))
        have hsz9 : w.heap.size ≤ (wr.alloc (.cells #[.int .i64 x] 3)).heap.size := HB9.out.size
        have HZ10 : Hid ((zs ++ [x]).length = L + 1) := by show _ = _; rw [List.length_append, HZ.out]; rfl
        clear HR HDR
        cases d
        · have hle : ¬ x > n := fun h => hs ⟨rfl, h⟩
          have hLk : L ≤ k := Nat.le_of_eq HLK.out
          clear hs
          go_wp2_with (at_builtin; refine Hid.out ?_)
          refine hidIt ?_
          refine wpList_append_kb rfl (.tmp 26) (.tmp 28) elemI rfl w.heap.size (.slice a L c) L _ rfl HO9.out _ 1 rfl #[.int .i64 x] 3 (heap_alloc_new _ _) rfl (one_of (by rfl)) (by omega) hsz9 ?_
          intro g10 c10 w10 hown10 hg10 hbl10
          have HB10 := hidIt (below_app5 HB9.out hg10 (fun g e => (owns_blk HO9.out g e).1) hsz9)
          have HO10 := hidIt (ints_done HZ.out hown10)
          clear hown10 hg10 hbl10 HO9 HB9 hsz9
          go_wp2_with fail
          go_roundw
          case rel => exact ⟨k + 1, L + 1, false, zs ++ [x], some ⟨g10, 0, none⟩, c10, by omega, by omega, (by have h14 : L = k + 0 := HLK.out; show L + 1 = k + 1 + 0; omega), rfl, rfl, by go_num, HZ10, HR2, HO10, HB10⟩
          case measure => simp [intOf]; omega
        · have hLk : L ≤ k + 1 := Nat.le_of_eq HLK.out
          clear hs
          go_wp2_with (at_builtin; refine Hid.out ?_)
          refine hidIt ?_
          refine wpList_append_kb rfl (.tmp 26) (.tmp 28) elemI rfl w.heap.size (.slice a L c) L _ rfl HO9.out _ 1 rfl #[.int .i64 x] 3 (heap_alloc_new _ _) rfl (one_of (by rfl)) (by omega) hsz9 ?_
          intro g10 c10 w10 hown10 hg10 hbl10
          have HB10 := hidIt (below_app5 HB9.out hg10 (fun g e => (owns_blk HO9.out g e).1) hsz9)
          have HO10 := hidIt (ints_done HZ.out hown10)
          clear hown10 hg10 hbl10 HO9 HB9 hsz9
          go_wp2_with fail
          go_roundw
          case rel => exact ⟨k + 1, L + 1, true, zs ++ [x], some ⟨g10, 0, none⟩, c10, by omega, by omega, (by have h14 : L = k + 1 := HLK.out; show L + 1 = k + 1 + 1; omega), rfl, rfl, by go_num, HZ10, HR2, HO10, HB10⟩
          case measure => simp [intOf]; omega
    · have hkI : ¬ (k : Int) < (M : Int) := by omega
      have hkM : k = xs.length := by have := HX.out; omega
      have HE : Hid (zs ++ restF n d [] = insF n xs) := by
        have := HR.out
        rwa [hkM, List.drop_length] at this
      clear hkM
      cases d
      · have HE2 : Hid (zs ++ [n] = insF n xs) := HE.out
        have HLM : Hid (L = M) := by
          have := congrArg List.length HE2.out
          rw [List.length_append, insF_len, HZ.out, ← HX.out] at this
          show L = M
          simpa using this
        have HO9 := hidIt (ints_own (z := n) HO.out HZ.out)
        have HB9 := hidIt (HB.out.trans (Below.mono (bgrow wr (.cells #[.int .i64 n] 3)) HB.out.size))
        have hsz9 : w.heap.size ≤ (wr.alloc (.cells #[.int .i64 n] 3)).heap.size := HB9.out.size
        go_wp2_with (at_builtin; refine Hid.out ?_)
        refine hidIt ?_
        refine wpList_append_kb rfl (.tmp 33) (.tmp 35) elemI rfl w.heap.size (.slice a L c) L _ rfl HO9.out _ 1 rfl #[.int .i64 n] 3 (heap_alloc_new _ _) rfl (one_of (by rfl)) (by omega) hsz9 ?_
        intro g10 c10 w10 hown10 hg10 hbl10
        have HB10 := hidIt (below_app5 HB9.out hg10 (fun g e => (owns_blk HO9.out g e).1) hsz9)
        have HO10 := hidIt (ints_done HZ.out hown10)
        go_wp2_with fail
        go_ret
        rw [HE2.out, HLM.out] at HO10
        exact ⟨_, _, by rw [HLM.out]; rfl, HO10.out, HB10.out⟩
      · have HE2 : Hid (zs = insF n xs) := by
          have := HE.out
          rwa [show restF n true [] = [] from rfl, List.append_nil] at this
        have HLM : Hid (L = M + 1) := by
          have := congrArg List.length HE2.out
          rw [insF_len, HZ.out, ← HX.out] at this
          exact this
        go_wp2_with fail
        go_ret
        rw [HE2.out, HLM.out] at HO
        exact ⟨_, _, by rw [HLM.out]; rfl, HO.out, HB.out⟩
end Go.Proofs.YtfiaoibfejginaaDoor

namespace Go.Proofs.YtfiaoibfejginaaDoor
set_option linter.unusedVariables false
set_option linter.unusedSimpArgs false
open Go Go.RowKit Go.Sort

theorem mem_insF {n y : Int} : ∀ {l : List Int}, y ∈ insF n l ↔ y = n ∨ y ∈ l
  | [] => by simp [insF]
  | x :: r => by
    unfold insF
    split
    · simp
    · rw [List.mem_cons, mem_insF, List.mem_cons]
      constructor
      · rintro (h | h | h)
        · exact .inr (.inl h)
        · exact .inl h
        · exact .inr (.inr h)
      · rintro (h | h | h)
        · exact .inr (.inl h)
        · exact .inl h
        · exact .inr (.inr h)
theorem memB_ins (l : List Int) (k : Nat) : memB (insF (k : Int) l) = addX (memB l) k := by
  funext i
  unfold memB addX
  rw [Bool.eq_iff_iff, decide_eq_true_eq, mem_insF, Bool.or_eq_true, decide_eq_true_eq, decide_eq_true_eq]
  constructor
  · rintro (h | h)
    · exact .inr (by omega)
    · exact .inl h
  · rintro (h | h)
    · exact .inr h
    · exact .inl (by omega)
/-- There is a naive set. -/
def greedy (ps : List (Int × Int)) : Nat → Nat → Bool
  | 0 => fun _ => false
  | n + 1 => if cfX ps (addX (greedy ps n) n) = true then addX (greedy ps n) n else greedy ps n
theorem greedy_up (ps : List (Int × Int)) : ∀ (n m : Nat) (i : Nat), greedy ps n i = true → greedy ps (n + m) i = true
  | _, 0, _, h => h
  | n, m + 1, i, h => by
    have ih := greedy_up ps n m i h
    show (if cfX ps (addX (greedy ps (n + m)) (n + m)) = true then addX (greedy ps (n + m)) (n + m) else greedy ps (n + m)) i = true
    split
    · show (greedy ps (n + m) i || _) = true
      rw [ih]; rfl
    · exact ih
theorem greedy_lt (ps : List (Int × Int)) : ∀ (n i : Nat), greedy ps n i = true → i < n
  | 0, _, h => by cases h
  | n + 1, i, h => by
    have ih := greedy_lt ps n i
    have h' : (if cfX ps (addX (greedy ps n) n) = true then addX (greedy ps n) n else greedy ps n) i = true := h
    split at h'
    · have h2 : greedy ps n i = true ∨ i = n := by simpa [addX] using h'
      rcases h2 with h2 | h2
      · have := ih h2; omega
      · omega
    · have := ih h'; omega
theorem naive_ex {N : Nat} {ps : List (Int × Int)} (hok : GOk (N : Int) ps) : ∃ l : List Int, setB N l = true ∧ naiveX N ps (memB l) := by
  have hcf : ∀ n, cfX ps (greedy ps n) = true := fun n => by
    induction n with
    | zero => exact (cfX_iff hok.ix).2 fun _ _ _ h => by cases h
    | succ n ih =>
      show cfX ps (if cfX ps (addX (greedy ps n) n) = true then addX (greedy ps n) n else greedy ps n) = true
      split
      · assumption
      · exact ih
  have e : memB (setL N (greedy ps N)) = greedy ps N := by
    funext i
    rw [memB_setL]
    cases hi : greedy ps N i
    · rw [Bool.and_false]
    · rw [decide_eq_true (greedy_lt ps N i hi)]; rfl
  refine ⟨setL N (greedy ps N), setB_setL _ _, ?_⟩
  rw [e]
  refine ⟨hcf N, fun k hk hX => Bool.eq_false_iff.2 fun hc => ?_⟩
  have h1 : greedy ps (k + 1) k = true := by
    show (if cfX ps (addX (greedy ps k) k) = true then addX (greedy ps k) k else greedy ps k) k = true
    rw [if_pos]
    · simp [addX]
    · refine (cfX_iff hok.ix).2 fun a b hab ha hb => (cfX_iff hok.ix).1 hc a b hab ?_ ?_
      · have ha' : greedy ps k a = true ∨ a = k := by simpa [addX] using ha
        rcases ha' with h | h
        · have := greedy_up ps k (N - k) a h
          rw [show k + (N - k) = N by omega] at this
          simp [addX, this]
        · simp [addX, h]
      · have hb' : greedy ps k b = true ∨ b = k := by simpa [addX] using hb
        rcases hb' with h | h
        · have := greedy_up ps k (N - k) b h
          rw [show k + (N - k) = N by omega] at this
          simp [addX, this]
        · simp [addX, h]
  have := greedy_up ps (k + 1) (N - (k + 1)) k h1
  rw [show k + 1 + (N - (k + 1)) = N by omega] at this
  rw [this] at hX; cases hX
theorem LL.cut {w : World} {a : Option Addr} {c n : Nat} {zss : List (List Int)} (h : LL w (.slice a n c) zss) : n = zss.length ∧ ∀ i (h : i < zss.length), ∃ b off ua un uc, a = some ⟨b, off, none⟩ ∧ b < w.heap.size ∧ w.cell? ⟨b, off + i, none⟩ = some (.slice ua un uc) ∧ IL w (.slice ua un uc) zss[i] := by
  obtain ⟨a', c', he, hf⟩ := h.lc
  injection he with e1 e2 e3
  subst e1 e2 e3
  exact ⟨rfl, hf⟩
/-- What a search hands on: some lists in order. -/
theorem comp_out (N : Nat) (v : Value) (ps : List (Int × Int)) (w : World) (h : PairsAt w v ps) (hok : GOk (N : Int) ps) (hl : ps.length ≤ 1000) (hT : Tab w) :
    Calls Tryd.prog 12 #[.agg #[.int .i64 (N : Int), v]] w fun e w' => Below w.heap.size w w' ∧ ∃ (ls : List (List Int)) (a : Option Addr) (l c : Nat) (k : Int), e = .returned (.tuple #[.slice a l c, .int .i64 k]) ∧ LL w' (.slice a l c) ls ∧ l = ls.length ∧ l ≤ 200 ∧ (ls.Pairwise fun x y => cmpF x y < 0) ∧ (∀ x ∈ ls, compB N ps x = true) ∧ (k = 2 ∨ (k = 0 ∧ 0 < l)) :=
  (sComplete_any (N : Int) v ps w h (by omega) hT).mono fun e w' ⟨hb, hr⟩ => by
    refine ⟨hb, ?_⟩
    rcases hr with ⟨h0, -⟩ | ⟨-, ⟨va, ls, he, hc, hll, hs⟩ | ⟨he, -⟩⟩
    · exact absurd (valE_of hok) h0
    · rw [Int.toNat_natCast] at hc
      obtain ⟨aa, ca, rfl, -⟩ := hs.ll.form
      obtain ⟨lab, rk, hsp⟩ := gspec_ex hok
      have hm : lab ∈ ls := (hc.mem lab).2 ((comp_iff hok.ix).2 hsp.complete)
      exact ⟨ls, aa, _, ca, 0, he, hs.ll, rfl, hll, hc.up, fun x hx => (hc.mem x).1 hx, .inr ⟨rfl, List.length_pos_of_mem hm⟩⟩
    · exact ⟨[], none, 0, 0, 2, he, .inl ⟨rfl, rfl⟩, rfl, by omega, List.Pairwise.nil, (fun x hx => nomatch hx), .inl rfl⟩
theorem naive_out (N : Nat) (v : Value) (ps : List (Int × Int)) (w : World) (h : PairsAt w v ps) (hok : GOk (N : Int) ps) (hl : ps.length ≤ 1000) (hT : Tab w) :
    Calls Tryd.prog 14 #[.agg #[.int .i64 (N : Int), v]] w fun e w' => Below w.heap.size w w' ∧ ∃ (ls : List (List Int)) (a : Option Addr) (l c : Nat) (k : Int), e = .returned (.tuple #[.slice a l c, .int .i64 k]) ∧ LL w' (.slice a l c) ls ∧ l = ls.length ∧ l ≤ 200 ∧ (ls.Pairwise fun x y => cmpF x y < 0) ∧ (∀ x ∈ ls, setB N x = true ∧ naiveX N ps (memB x)) ∧ (k = 2 ∨ (k = 0 ∧ 0 < l)) :=
  (sNaive_any (N : Int) v ps w h (by omega) hT).mono fun e w' ⟨hb, hr⟩ => by
    refine ⟨hb, ?_⟩
    rcases hr with ⟨h0, -⟩ | ⟨-, ⟨va, ls, he, hc, hll, hs⟩ | ⟨he, -⟩⟩
    · exact absurd (valE_of hok) h0
    · rw [Int.toNat_natCast] at hc
      obtain ⟨aa, ca, rfl, -⟩ := hs.ll.form
      obtain ⟨x, hx⟩ := naive_ex hok
      have hm : x ∈ ls := (hc.mem x).2 hx
      exact ⟨ls, aa, _, ca, 0, he, hs.ll, rfl, hll, hc.up, fun x hx => (hc.mem x).1 hx, .inr ⟨rfl, List.length_pos_of_mem hm⟩⟩
    · exact ⟨[], none, 0, 0, 2, he, .inl ⟨rfl, rfl⟩, rfl, by omega, List.Pairwise.nil, (fun x hx => nomatch hx), .inl rfl⟩

set_option maxRecDepth 100000 in
set_option maxHeartbeats 4000000 in
theorem large_walk (lv : Value) (zs : List Int) (w : World) (hz : IntsAt w w.heap.size lv zs) (hT : Tab w) :
    Calls Tryd.prog 8 #[lv] w fun e w' => e = .returned (.bool true) ∧ Below w.heap.size w w' := by
  have HT := hidIt hT
  have HZ := hidIt hz
  clear hz hT
  go_enter Tryd.func8, Tryd.ntmps8
  go_wp2_with fail
  refine (new_any lv zs w.heap.size w HZ.out (Nat.le_refl _)).mono ?_
  rintro e w1 ⟨zs', rfl, hs1, o1, rfl⟩
  have HS1 := hidIt hs1
  have HB1 := hidIt (bgrow w o1)
  have hsz1 : w.heap.size < (w.alloc o1).heap.size := hs1.lt
  clear hs1
  generalize w.alloc o1 = w1 at *
  go_wp2_with fail
  refine (kGraph_any 14 (by decide) _ _ _ _ w1 HS1.out).mono ?_
  rintro e w2 ⟨N, ps, ga, gc, k2, rfl, hN, hok, hpl, hop, hs2, hg2⟩
  have HOK := hidIt hok
  have HPS := hidIt hpl
  have hgr := bgrow w2 (.cells #[.int .i64 (N : Int), .slice ga ps.length gc] 24)
  have HB2 := hidIt (below_read13 HB1.out hg2 (Nat.le_of_lt hsz1))
  have HW3 : Hid (LW w w2.heap.size N ga gc ps (w2.alloc (.cells #[.int .i64 (N : Int), .slice ga ps.length gc] 24))) :=
    ⟨heap_alloc_new w2 _, (hop.below hgr).lits, (HT.out.go HB2.out).go hgr, HB2.out.trans (Below.mono hgr HB2.out.size)⟩
  clear hok hpl hop hs2 hg2 hgr HB2 HS1 HB1
  go_upto_region 3 with (fail)
  generalize (w2.alloc (.cells #[.int .i64 (N : Int), .slice ga ps.length gc] 24)) = w3 at *
  generalize w2.heap.size = G at *
  have x0 := HW3.out.c0
  have x1 := HW3.out.c1
  have lx := HW3.out.l
  go_wp2_with fail
  refine (comp_out N _ ps _ HW3.out.p HOK.out HPS.out HW3.out.t).mono ?_
  rintro e w4 ⟨hb4, ls, a4, l4, c4, k4, rfl, hl4, hll4, hle4, hup4, hco4, hk4⟩
  have HW4 := hidIt (HW3.out.go hb4)
  have HL4 := hidIt hl4
  have HE4 := hidIt hll4
  have HU4 := hidIt hup4
  have HC4 := hidIt hco4
  have HK4 := hidIt hk4
  clear x0 x1 lx hb4 hl4 hll4 hup4 hco4 hk4 HW3
  have x0 := HW4.out.c0
  have x1 := HW4.out.c1
  have lx := HW4.out.l
  go_wp2_with fail
  refine (naive_out N _ ps _ HW4.out.p HOK.out HPS.out HW4.out.t).mono ?_
  rintro e w5 ⟨hb5, ns, a5, l5, c5, k5, rfl, hl5, hll5, hle5, hup5, hco5, hk5⟩
  have HW5 := hidIt (HW4.out.go hb5)
  have HL5 := hidIt (HL4.out.below hb5)
  have HN5 := hidIt hl5
  have HE5 := hidIt hll5
  have HU5 := hidIt hup5
  have HC5 := hidIt hco5
  have HK5 := hidIt hk5
  clear x0 x1 lx hb5 hl5 hll5 hup5 hco5 hk5 HW4 HL4
  go_upto_region 5 with (fail)
  go_cut [69] from 14 (fun v69 wx => v69 = .bool false ∧ wx = w5)
  case first =>
    have hn4 : ¬ (l4 : Int) > 200 := by omega
    have hn5 : ¬ (l5 : Int) > 200 := by omega
    rcases HK4.out with rfl | ⟨rfl, h4⟩ <;> rcases HK5.out with rfl | ⟨rfl, h5⟩
    · go_wp2_with fail
      go_meet
      exact ⟨by simp [hn4, hn5], rfl⟩
    · have hz5 : ((l5 : Int) == 0) = false := by simp only [beq_eq_false_iff_ne, ne_eq]; omega
      go_wp2_with fail
      go_meet
      exact ⟨by simp [hn4, hn5], rfl⟩
    · have hz4 : ((l4 : Int) == 0) = false := by simp only [beq_eq_false_iff_ne, ne_eq]; omega
      go_wp2_with fail
      go_meet
      exact ⟨by simp [hn4, hn5], rfl⟩
    · have hz4 : ((l4 : Int) == 0) = false := by simp only [beq_eq_false_iff_ne, ne_eq]; omega
      have hz5 : ((l5 : Int) == 0) = false := by simp only [beq_eq_false_iff_ne, ne_eq]; omega
      go_wp2_with fail
      go_meet
      exact ⟨by simp [hn4, hn5], rfl⟩
  case rest =>
    obtain ⟨rfl, rfl⟩ := hcut
    have HF5 := hidIt HL5.out.cut.2
    have HF6 := hidIt HN5.out.cut.2
    clear HK4 HK5 HL5 HN5
    go_wp2_with fail
    go_loopw [9, 10, 72] (fun _ _ i wr => ∃ k : Nat, k ≤ l4 ∧ i = .int .i64 k ∧ Hid (Below wc.heap.size wc wr)) (fun _ _ i _ => l4 - (intOf i).toNat)
    case atStart => exact ⟨0, Nat.zero_le _, rfl, Below.refl _ _⟩
    case round =>
      obtain ⟨k, hk, rfl, HBr⟩ := hrel
      have hk0 : (0 : Int) ≤ (k : Int) := by omega
      have HWr := hidIt (HW5.out.go HBr.out)
      have x0 := HWr.out.c0
      have x1 := HWr.out.c1
      have lx := HWr.out.l
      by_cases hlt : k < l4
      · have hkI : (k : Int) < (l4 : Int) := by omega
        have hkl : k < ls.length := by have := HE4.out; omega
        obtain ⟨b, off, ua, un, uc, rfl, lb, cc, hi⟩ := HF5.out k hkl
        have cy := (Below.cell (p := ⟨b, off + k, none⟩) HBr.out lb).trans cc
        have lb2 := Nat.lt_of_lt_of_le lb HBr.out.size
        have HY := hidIt (hi.below HBr.out)
        have HCB := hidIt (HC4.out _ (List.getElem_mem hkl))
        have HYL : Hid (ls[k].length = N) := ((comp_iff HOK.out.ix).1 HCB.out).len
        have HUK : Hid (∀ j (hj : j < ls.length), k = j + 1 → cmpF ls[j] ls[k] < 0 ∧ ls[j].length = N) := fun j hj e => ⟨List.pairwise_iff_getElem.1 HU4.out j k hj hkl (by omega), ((comp_iff HOK.out.ix).1 (HC4.out _ (List.getElem_mem hj))).len⟩
        clear cc hi
        generalize ls[k] = y at *
        go_wp2_with fail
        refine (lIsComplete_any N _ _ ps y _ HWr.out.p HOK.out HPS.out HY.out (by have := HYL.out; omega)).mono ?_
        rw [show (validB N y && decide ((illL N ps y).length = 0)) = true from HCB.out]
        rintro e w6 ⟨rfl, hb6⟩
        have HB6 := hidIt (HBr.out.trans (Below.mono hb6 HBr.out.size))
        have HY6 := hidIt (HY.out.below hb6)
        have lb6 := Nat.lt_of_lt_of_le lb HB6.out.size
        clear x0 x1 lx cy lb2 hb6 HWr HBr HY
        by_cases hk1 : 0 < k
        · obtain ⟨j, rfl⟩ : ∃ j, k = j + 1 := ⟨k - 1, by omega⟩
          have hj1 : j < ls.length := by omega
          obtain ⟨hcm, hjl⟩ := HUK.out j hj1 rfl
          obtain ⟨b', off', ua', un', uc', he, lb', cc', hi'⟩ := HF5.out j hj1
          injection he with he
          injection he with he1 he2
          subst he1 he2
          have cj := (Below.cell (p := ⟨b, off + j, none⟩) HB6.out lb').trans cc'
          have HJ := hidIt (hi'.below HB6.out)
          have HCM := hidIt hcm
          have HJL := hidIt hjl
          have hgt : (0 : Int) < ((j + 1 : Nat) : Int) := by omega
          have hsub : ((j + 1 : Nat) : Int) - 1 = (j : Int) := by omega
          have hj0 : (0 : Int) ≤ (j : Int) := by omega
          have hjI : (j : Int) < (l4 : Int) := by omega
          have hsubw : IntKind.i64.wrap (((j + 1 : Nat) : Int) - 1) = (j : Int) := by rw [hsub]; exact IntWalk.i64_in _ (by omega)
          clear cc' hi' hcm hjl hk1 lb lb'
          generalize ls[j] = z at *
          go_wp2_with fail
          refine (lCompare_any _ _ z y _ HJ.out HY6.out (by have := HJL.out; omega) (by have := HYL.out; omega)).mono ?_
          rintro e w7 ⟨rfl, hb7⟩
          have HB7 := hidIt (HB6.out.trans (Below.mono hb7 HB6.out.size))
          have hcmv := HCM.out
          have hnge : ¬ cmpF z y ≥ 0 := by omega
          go_wp2_with fail
          go_roundw
          case rel => exact ⟨j + 1 + 1, by omega, by go_num, HB7⟩
          case measure => simp [intOf]; omega
        · obtain rfl : k = 0 := by omega
          go_wp2_with fail
          go_roundw
          case rel => exact ⟨0 + 1, by omega, by go_num, HB6⟩
          case measure => simp [intOf]; omega
      · have hkI : ¬ (k : Int) < (l4 : Int) := by omega
        have HBA := hidIt HBr.out
        clear x0 x1 lx HWr HBr hlt hk hk0
        have HW7 := hidIt (HW5.out.go HBA.out)
        have HF7 : Hid (∀ i (h : i < ns.length), ∃ (b off : Nat) (ua : Option Addr) (un uc : Nat), a5 = some ⟨b, off, none⟩ ∧ b < wr.heap.size ∧ wr.cell? ⟨b, off + i, none⟩ = some (.slice ua un uc) ∧ IL wr (.slice ua un uc) ns[i]) := fun i h => by
          obtain ⟨b, off, ua, un, uc, he, hb, hc, hi⟩ := HF6.out i h
          exact ⟨b, off, ua, un, uc, he, Nat.lt_of_lt_of_le hb HBA.out.size, (Below.cell (p := ⟨b, off + i, none⟩) HBA.out hb).trans hc, hi.below HBA.out⟩
        clear HF6 HF5 HW5 HBA HU4 HC4 HE4
        generalize wr = wA at *
        go_wp2_with fail
        go_loopw [11, 12, 13, 98] (fun _ _ _ i wr => ∃ k : Nat, k ≤ l5 ∧ i = .int .i64 k ∧ Hid (Below wA.heap.size wA wr)) (fun _ _ _ i _ => l5 - (intOf i).toNat)
        case atStart => exact ⟨0, Nat.zero_le _, rfl, Below.refl _ _⟩
        case round =>
          obtain ⟨k, hk, rfl, HBr⟩ := hrel
          have hk0 : (0 : Int) ≤ (k : Int) := by omega
          have HWr := hidIt (HW7.out.go HBr.out)
          have x0 := HWr.out.c0
          have x1 := HWr.out.c1
          have lx := HWr.out.l
          by_cases hlt : k < l5
          · have hkI : (k : Int) < (l5 : Int) := by omega
            have hkl : k < ns.length := by have := HE5.out; omega
            obtain ⟨b, off, ua, un, uc, rfl, lb, cc, hi⟩ := HF7.out k hkl
            have cy := (Below.cell (p := ⟨b, off + k, none⟩) HBr.out lb).trans cc
            have lb2 := Nat.lt_of_lt_of_le lb HBr.out.size
            have HY := hidIt (hi.below HBr.out)
            have HYA0 := hi
            have HNX := hidIt (HC5.out _ (List.getElem_mem hkl))
            have HYL : Hid (ns[k].length ≤ N) := setB_len HNX.out.1
            have HUK : Hid (∀ j (hj : j < ns.length), k = j + 1 → cmpF ns[j] ns[k] < 0 ∧ ns[j].length ≤ N) := fun j hj e => ⟨List.pairwise_iff_getElem.1 HU5.out j k hj hkl (by omega), setB_len (HC5.out _ (List.getElem_mem hj)).1⟩
            obtain ⟨ua2, uc2, hev, -⟩ := hi.ic
            injection hev with hev1 hev2 hev3
            clear hev1 hev3
            subst hev2
            have HYA := hidIt HYA0
            clear cc hi HYA0
            generalize ns[k] = y at *
            go_upto_region 16 with (fail)
            go_cut [11, 12, 120] from 99 to 138 (fun v11 v12 v120 wx => v11 = .int .i64 k ∧ v12 = .slice ua y.length uc ∧ v120 = .bool false ∧ Hid (Below wA.heap.size wA wx))
            case first =>
              go_wp2_with fail
              refine (raConflictFree_any N _ _ ps y _ HWr.out.p HOK.out (by have := HPS.out; omega) HY.out (by have := HYL.out; omega)).mono ?_
              rw [HNX.out.1, HNX.out.2.1, Bool.true_and]
              rintro e w6 ⟨rfl, hb6⟩
              have HB6 := hidIt (HBr.out.trans (Below.mono hb6 HBr.out.size))
              have HY6 := hidIt (HY.out.below hb6)
              have lb6 := Nat.lt_of_lt_of_le lb HB6.out.size
              clear x0 x1 lx cy lb2 hb6 HWr HBr HY
              by_cases hk1 : 0 < k
              · obtain ⟨j, rfl⟩ : ∃ j, k = j + 1 := ⟨k - 1, by omega⟩
                have hj1 : j < ns.length := by omega
                obtain ⟨hcm, hjl⟩ := HUK.out j hj1 rfl
                obtain ⟨b', off', ua', un', uc', he, lb', cc', hi'⟩ := HF7.out j hj1
                injection he with he
                injection he with he1 he2
                subst he1 he2
                have cj := (Below.cell (p := ⟨b, off + j, none⟩) HB6.out lb').trans cc'
                have HJ := hidIt (hi'.below HB6.out)
                have HCM := hidIt hcm
                have HJL := hidIt hjl
                have hgt : (0 : Int) < ((j + 1 : Nat) : Int) := by omega
                have hsub : ((j + 1 : Nat) : Int) - 1 = (j : Int) := by omega
                have hj0 : (0 : Int) ≤ (j : Int) := by omega
                have hjI : (j : Int) < (l5 : Int) := by omega
                clear cc' hi' hcm hjl hk1 lb lb'
                generalize ns[j] = z at *
                go_wp2_with fail
                refine (lCompare_any _ _ z y _ HJ.out HY6.out (by have := HJL.out; omega) (by have := HYL.out; omega)).mono ?_
                rintro e w7 ⟨rfl, hb7⟩
                have HB7 := hidIt (HB6.out.trans (Below.mono hb7 HB6.out.size))
                have hcmv := HCM.out
                have hnge : ¬ cmpF z y ≥ 0 := by omega
                go_wp2_with fail
                go_meet
                exact ⟨rfl, rfl, by simp [hnge], HB7⟩
              · obtain rfl : k = 0 := by omega
                go_wp2_with fail
                go_meet
                exact ⟨rfl, rfl, rfl, HB6⟩
            case rest =>
              obtain ⟨rfl, rfl, rfl, HBc⟩ := hcut
              have HYW : Hid (IL wA (.slice ua y.length uc) y) := HYA.out
              clear x0 x1 lx cy lb2 HWr HBr HY HUK
              generalize wc = wC at *
              go_wp2_with fail
              go_loopw [13] (fun v13 wr => ∃ q : Nat, q ≤ N ∧ v13 = .int .i64 q ∧ Hid (Below wA.heap.size wA wr)) (fun v13 _ => N - (intOf v13).toNat)
              case atStart => exact ⟨0, Nat.zero_le _, rfl, HBc⟩
              case round =>
                obtain ⟨q, hq, rfl, HBr⟩ := hrel
                have hq0 : (0 : Int) ≤ (q : Int) := by omega
                have HWr := hidIt (HW7.out.go HBr.out)
                have x0 := HWr.out.c0
                have x1 := HWr.out.c1
                have lx := HWr.out.l
                by_cases hlq : q < N
                · have hqI : (q : Int) < (N : Int) := by omega
                  have HYr := hidIt (HYW.out.below HBr.out)
                  go_upto_region 21 with (fail)
                  by_cases hin : (q : Int) ∈ y
                  · have HIN : Hid (∀ m : Nat, Calls Tryd.prog 29 #[.slice ua y.length uc, .int .i64 (q : Int)] (wr.drewN m) fun e w' => e = .returned (.bool true) ∧ w' = wr.drewN m) := fun m => by
                      have := kIn_any _ y (q : Int) (wr.drewN m) (HYr.out.below (below_drew14 (Below.refl _ _) m)) (by have := HYL.out; omega)
                      rwa [decide_eq_true hin] at this
                    go_quiet (exact Calls.quiet_of_same (HIN.out _))
                    have HBq := hidIt (below_drew14 HBr.out nq)
                    clear x0 x1 lx
                    go_wp2_with fail
                    go_roundw
                    case rel => exact ⟨q + 1, by omega, by go_num, HBq⟩
                    case measure => simp [intOf]; omega
                  · have X0 : ∀ wx, Ext wr wx → wx.cell? ⟨G, 0, none⟩ = some (.int .i64 (N : Int)) := fun wx hC => (Below.cell (p := ⟨G, 0, none⟩) hC lx).trans x0
                    have X1 : ∀ wx, Ext wr wx → wx.cell? ⟨G, 1, none⟩ = some (.slice ga ps.length gc) := fun wx hC => (Below.cell (p := ⟨G, 1, none⟩) hC lx).trans x1
                    have HNA : Hid (cfX ps (memB (insF (q : Int) y)) = false) := by
                      show _ = _
                      rw [memB_ins]
                      exact HNX.out.2.2 q hlq (decide_eq_false hin)
                    have CI : Hid (∀ wx, Ext wr wx → Calls Tryd.prog 29 #[.slice ua y.length uc, .int .i64 (q : Int)] wx fun e w'' => ∃ u, e = .returned u ∧ Ext wr w'' ∧ Grows wx w'' ∧ isB false u w'') := fun wx hC => rel_call hC ((kIn_any _ y (q : Int) wx (HYr.out.below hC) (by have := HYL.out; omega)).mono fun e w'' ⟨h1, h2⟩ => ⟨_, h1, congrArg Value.bool (decide_eq_false hin), by rw [h2]; exact Below.refl _ _⟩)
                    have CS : Hid (∀ wx, Ext wr wx → Calls Tryd.prog 30 #[.slice ua y.length uc, .int .i64 (q : Int)] wx fun e w'' => ∃ u, e = .returned u ∧ Ext wr w'' ∧ Grows wx w'' ∧ isIq13 (y.length + 1) (insF (q : Int) y) u w'') := fun wx hC => rel_call hC ((insert_any _ y (q : Int) wx (HYr.out.below hC) (by have := HYL.out; omega)).mono fun e w'' ⟨a, c, h1, h2, h3⟩ => ⟨_, h1, ⟨a, c, rfl, h2.il⟩, h3⟩)
                    have CF : Hid (∀ wx a1 c1, Ext wr wx → IL wx (.slice a1 (y.length + 1) c1) (insF (q : Int) y) → Calls Tryd.prog 21 #[.agg #[.int .i64 (N : Int), .slice ga ps.length gc], .slice a1 (y.length + 1) c1] wx fun e w'' => ∃ u, e = .returned u ∧ Ext wr w'' ∧ Grows wx w'' ∧ isB false u w'') := fun wx a1 c1 hC h1 => rel_call hC ((raConflictFree_any N _ _ ps (insF (q : Int) y) wx (HWr.out.go hC).p HOK.out (by have := HPS.out; omega) h1 (by rw [insF_len]; have := HYL.out; omega)).mono fun e w'' ⟨h3, h4⟩ => ⟨_, h3, by rw [HNA.out, Bool.and_false]; rfl, h4⟩)
                    haveI := Ext.nonempty wr
                    refine wp_region_rel (Ext wr) Grows (relTab [(129, isB false), (135, isIq13 (y.length + 1) (insF (q : Int) y)), (136, isB false)]) (by kernel_rfl) (by kernel_rfl) (by kernel_rfl) (stable_cons (isB_up _) (stable_cons (isIq13_up _ _) (stable_cons (isB_up _) (stable_nil _)))) (Ext.start wr) ?_
                    repeat (
                      refine' walkR_plain (by kernel_rfl) rfl rfl (fun wx hC hL => ?_) ?_
                      rotate_left
                      · (have hls := Below.size hC
                         have hllx := Nat.lt_of_lt_of_le lx hls
                         simp only [X0 wx hC, X1 wx hC, hllx, go_sem]; first | done | (go_simp; exact ⟨rfl, rfl⟩))
                      simp only [Act.put, List.setIfInBounds_toArray, List.set_cons_zero, List.set_cons_succ])
                    refine walkR_rel (by kernel_rfl) rfl rfl (of_decide_eq_true (by kernel_rfl)) (fun wx hC hL => ?_) (fun v hv => ?_)
                    · go_simp
                      exact CI.out wx hC
                    obtain ⟨_, _, rfl⟩ := hv
                    simp only [Act.put, List.setIfInBounds_toArray, List.set_cons_zero, List.set_cons_succ]
                    repeat (
                      refine' walkR_plain (by kernel_rfl) rfl rfl (fun wx hC hL => ?_) ?_
                      rotate_left
                      · (have hls := Below.size hC
                         have hllx := Nat.lt_of_lt_of_le lx hls
                         simp only [X0 wx hC, X1 wx hC, hllx, go_sem]; first | done | (go_simp; exact ⟨rfl, rfl⟩))
                      simp only [Act.put, List.setIfInBounds_toArray, List.set_cons_zero, List.set_cons_succ])
                    refine walkR_rel (by kernel_rfl) rfl rfl (of_decide_eq_true (by kernel_rfl)) (fun wx hC hL => ?_) (fun v hv => ?_)
                    · go_simp
                      exact CS.out wx hC
                    obtain ⟨_, _, a135, c135, rfl, -⟩ := hv
                    simp only [Act.put, List.setIfInBounds_toArray, List.set_cons_zero, List.set_cons_succ]
                    repeat (
                      refine' walkR_plain (by kernel_rfl) rfl rfl (fun wx hC hL => ?_) ?_
                      rotate_left
                      · (have hls := Below.size hC
                         have hllx := Nat.lt_of_lt_of_le lx hls
                         simp only [X0 wx hC, X1 wx hC, hllx, go_sem]; first | done | (go_simp; exact ⟨rfl, rfl⟩))
                      simp only [Act.put, List.setIfInBounds_toArray, List.set_cons_zero, List.set_cons_succ])
                    refine walkR_rel (by kernel_rfl) rfl rfl (of_decide_eq_true (by kernel_rfl)) (fun wx hC hL => ?_) (fun v hv => ?_)
                    · have k135 := hidIt (isIq13_use (hL.get 135 (by simp [more]) (by kernel_rfl) rfl rfl))
                      go_simp
                      exact CF.out wx a135 c135 hC k135.out
                    obtain ⟨_, _, rfl⟩ := hv
                    simp only [Act.put, List.setIfInBounds_toArray, List.set_cons_zero, List.set_cons_succ]
                    repeat (
                      refine' walkR_plain (by kernel_rfl) rfl rfl (fun wx hC hL => ?_) ?_
                      rotate_left
                      · (have hls := Below.size hC
                         have hllx := Nat.lt_of_lt_of_le lx hls
                         simp only [X0 wx hC, X1 wx hC, hllx, go_sem]; first | done | (go_simp; exact ⟨rfl, rfl⟩))
                      simp only [Act.put, List.setIfInBounds_toArray, List.set_cons_zero, List.set_cons_succ])
                    refine fun wq hCq hK => ?_
                    have HBq : Hid (Below wA.heap.size wA wq) := HBr.out.trans (Below.mono (show Below wr.heap.size wr wq from hCq) HBr.out.size)
                    clear hK hCq X0 X1 x0 x1 lx CI CS CF
                    go_wp2_with fail
                    go_roundw
                    case rel => exact ⟨q + 1, by omega, by go_num, HBq⟩
                    case measure => simp [intOf]; omega
                · have hqI : ¬ (q : Int) < (N : Int) := by omega
                  go_wp2_with fail
                  go_roundw
                  case rel => exact ⟨k + 1, by omega, by go_num, HBr⟩
                  case measure => simp [intOf]; omega
          · have hkI : ¬ (k : Int) < (l5 : Int) := by omega
            go_wp2_with fail
            refine (awake14_any _ HWr.out.t).mono ?_
            rintro e w7 ⟨rfl, hb7⟩
            go_wp2_with fail
            go_ret
            exact ⟨rfl, HWr.out.b.trans (Below.mono hb7 HWr.out.b.size)⟩
end Go.Proofs.YtfiaoibfejginaaDoor
