/- SameGraph at equal graphs; lists of attacks that a call owns. -/
import Derived.Test.YtplkkkkcmfgkfaaGreatG9H
namespace Go.Proofs.YtplkkkkcmfgkfaaGreat
set_option linter.unusedVariables false
set_option linter.unusedSimpArgs false
open Go Go.RowKit Go.Sort

theorem PairsAt.form {w : World} {v : Value} {xs : List (Int × Int)} (h : PairsAt w v xs) : ∃ (a : Option Addr) (c : Nat), v = .slice a xs.length c ∧
    (∀ i, i < xs.length → ∃ b off, a = some ⟨b, off, none⟩ ∧ b < w.heap.size ∧ w.cell? ⟨b, off + i * 2, none⟩ = some (.int .i64 (xs[i]!).1) ∧ w.cell? ⟨b, off + i * 2 + 1, none⟩ = some (.int .i64 (xs[i]!).2)) := by
  rcases h with ⟨rfl, rfl⟩ | ⟨b, off, cap, rfl, h2, h3, h4, h5⟩
  · exact ⟨none, 0, rfl, fun i hi => by simp at hi⟩
  · exact ⟨_, cap, rfl, fun i hi => ⟨b, off, rfl, h4, h5 i hi⟩⟩

set_option maxRecDepth 100000 in
set_option maxHeartbeats 1000000 in
theorem sameGraph_true (n : Int) (v1 v2 : Value) (xs : List (Int × Int)) (w : World) (h1 : PairsAt w v1 xs) (h2 : PairsAt w v2 xs) (hn : xs.length ≤ 1000000) :
    Calls Tryz.prog 9 #[.agg #[.int .i64 n, v1], .agg #[.int .i64 n, v2]] w fun e w' => e = .returned (.bool true) ∧ Below w.heap.size w w' := by
  obtain ⟨a1, c1, rfl, k1⟩ := h1.form
  obtain ⟨a2, c2, rfl, k2⟩ := h2.form
  have K1 := hidIt k1
  have K2 := hidIt k2
  clear k1 k2 h1 h2
  have hg1 := bgrow w (.cells #[.int .i64 n, .slice a1 xs.length c1] 33)
  have hg2 := bgrow (w.alloc (.cells #[.int .i64 n, .slice a1 xs.length c1] 33)) (.cells #[.int .i64 n, .slice a2 xs.length c2] 33)
  have HX := hidIt (blk_kept2 (heap_alloc_new w (.cells #[.int .i64 n, .slice a1 xs.length c1] 33)) hg2)
  have hY := heap_alloc_new (w.alloc (.cells #[.int .i64 n, .slice a1 xs.length c1] 33)) (.cells #[.int .i64 n, .slice a2 xs.length c2] 33)
  rw [World.size_alloc] at hY
  have HY := hidIt hY
  have HB := hidIt (hg1.trans (Below.mono hg2 hg1.size))
  clear hg1 hg2 hY
  have hnn : (n != n) = false := bne_self_eq_false _
  have hll : ((xs.length : Int) != (xs.length : Int)) = false := bne_self_eq_false _
  go_enter Tryz.func9, Tryz.ntmps9
  obtain ⟨x0, x1⟩ := And.intro (cell_two0 HX.out) (cell_two1 HX.out)
  obtain ⟨y0, y1⟩ := And.intro (cell_two0 HY.out) (cell_two1 HY.out)
  have lx := lt_of_block HX.out
  have ly := lt_of_block HY.out
  go_upto_region 1 with (fail)
  generalize ((w.alloc (.cells #[.int .i64 n, .slice a1 xs.length c1] 33)).alloc (.cells #[.int .i64 n, .slice a2 xs.length c2] 33)) = w1 at *
  go_wp2_with fail
  go_loopw [5] (fun i wr => ∃ k m : Nat, k ≤ xs.length ∧ i = .int .i64 k ∧ wr = w1.drewN m) (fun i _ => xs.length - (intOf i).toNat)
  case atStart => exact ⟨0, 0, Nat.zero_le _, rfl, rfl⟩
  case round =>
    obtain ⟨k, m, hk, rfl, rfl⟩ := hrel
    have hkI0 : (0 : Int) ≤ (k : Int) := by omega
    by_cases hlt : k < xs.length
    · have hkI : (k : Int) < (xs.length : Int) := by omega
      obtain ⟨b1, o1, rfl, hb1, p0', p1'⟩ := K1.out k hlt
      obtain ⟨b2, o2, rfl, hb2, q0', q1'⟩ := K2.out k hlt
      have p0 := (Below.cell (p := ⟨b1, o1 + k * 2, none⟩) HB.out hb1).trans p0'
      have p1 := (Below.cell (p := ⟨b1, o1 + k * 2 + 1, none⟩) HB.out hb1).trans p1'
      have q0 := (Below.cell (p := ⟨b2, o2 + k * 2, none⟩) HB.out hb2).trans q0'
      have q1 := (Below.cell (p := ⟨b2, o2 + k * 2 + 1, none⟩) HB.out hb2).trans q1'
      have l1 := Nat.lt_of_lt_of_le hb1 HB.out.size
      have l2 := Nat.lt_of_lt_of_le hb2 HB.out.size
      clear p0' p1' q0' q1' hb1 hb2
      generalize xs[k]! = x at p0 p1 q0 q1
      obtain ⟨gx, sx⟩ := x
      simp only at p0 p1 q0 q1
      have hq : ∀ w, (Op.equalIn 10000 46 (.agg #[.int .i64 gx, .int .i64 sx]) (.agg #[.int .i64 gx, .int .i64 sx])).run Tryz.prog w = .ok true w := fun w => by rw [eqFieldsL]; simp
      have hgd := fun (op : BinOp) (a b : Operand) (w : World) => gdL op a b gx gx sx sx w
      go_wp2_with fail
      go_quiet (fail)
      go_wp2_with fail
      go_roundw
      case rel => exact ⟨k + 1, _, by omega, by go_num, (by first | rfl | exact World.drewN_drewN _ _ _)⟩
      case measure => simp [intOf]; omega
    · have hkI : ¬ (k : Int) < (xs.length : Int) := by omega
      have HBd : Hid (Below w.heap.size w (w1.drewN m)) := ⟨HB.out.os, HB.out.tape, HB.out.output, HB.out.size, HB.out.block⟩
      go_wp2_with fail
      go_ret
      exact ⟨rfl, HBd.out⟩

def encA (a : At4) : List Value := [.int .i64 a.f, .int .i64 a.t, .int .i64 a.s, .int .i64 a.k]
theorem infoA : (Tryz.prog.info? 28).map (fun i => (i.zero, i.size, i.bytes)) = some (some (.agg #[.int .i64 0, .int .i64 0, .int .i64 0, .int .i64 0]), 4, 32) := by kernel_rfl
theorem elemA : ElemOf 22 28 4 32 := elem_of Tryz.underlying22 infoA rfl (by decide) (by decide)
/-- A list of attacks that the call owns. -/
def OwnA (w : World) (B : Nat) (v : Value) (xs : List At4) : Prop := w.ownsRow B 28 4 v xs.length (xs.flatMap encA)
theorem OwnA.nil (w : World) (B : Nat) : OwnA w B (.slice none 0 0) [] := World.ownsRow_nil w B _ _
theorem OwnA.at_ {w : World} {B : Nat} {v : Value} {xs : List At4} (h : OwnA w B v xs) : AtsAt w v xs := by
  rcases h.2 with ⟨rfl, h0⟩ | ⟨g, cap, cur, rfl, hB, hg, hnc, hcm, -, -⟩
  · exact .inl ⟨rfl, List.eq_nil_of_length_eq_zero h0⟩
  · refine .inr ⟨g, 0, cap, rfl, hnc, hcm, lt_of_block hg, fun i hi => ?_⟩
    have hc : ∀ j (hj : j < 4), w.cell? ⟨g, 0 + i * 4 + j, none⟩ = (encA xs[i])[j]? := fun j hj => by
      have hfl := flat_get encA 4 (fun _ => rfl) xs i j hi hj
      have hex : ∃ u, (encA xs[i])[j]? = some u := ⟨(encA xs[i])[j]'hj, List.getElem?_eq_getElem hj⟩
      obtain ⟨u, hu⟩ := hex
      rw [hu] at hfl ⊢
      rw [Nat.zero_add]
      exact owns_cell h rfl (i * 4 + j) u hfl
    exact ⟨hc 0 (by decide), hc 1 (by decide), hc 2 (by decide), hc 3 (by decide)⟩
/-- The list stays what it is whatever the reader b does. -/
def Stays (w : World) (b : Nat) (v : Value) (xs : List At4) : Prop := ∀ wx, w.grownBy wx (some b) → AtsAt wx v xs
theorem AtsAt.stays {w : World} {v : Value} {xs : List At4} {b : Nat} (h : AtsAt w v xs) (hb : w.heap.size ≤ b) : Stays w b v xs := fun wx hg =>
  h.below ⟨hg.os, hg.tape, hg.output, hg.size, fun k hk => hg.block k hk (fun e => by injection e with e; omega)⟩
theorem OwnA.stays {w : World} {B : Nat} {v : Value} {xs : List At4} {b : Nat} (h : OwnA w B v xs) (hb : b < B) : Stays w b v xs := fun wx hg =>
  OwnA.at_ (B := B) (owns_kept h fun g e => hg.block g (owns_blk h g e).2 (fun e2 => by injection e2 with e2; have := (owns_blk h g e).1; omega))
theorem Stays.go {w w' : World} {b : Nat} {v : Value} {xs : List At4} (h : Stays w b v xs) (hg : w.grownBy w' (some b)) : Stays w' b v xs := fun wx hx => h wx (only_trans hg hx)
theorem Stays.now {w : World} {b : Nat} {v : Value} {xs : List At4} (h : Stays w b v xs) : AtsAt w v xs := h w (only_refl w _)
end Go.Proofs.YtplkkkkcmfgkfaaGreat
