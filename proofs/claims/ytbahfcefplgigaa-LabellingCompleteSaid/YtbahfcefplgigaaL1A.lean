/- keep.Labels: a labelling out of a reader. -/
import Derived.Test.YtbahfcefplgigaaG1I
namespace Go.Proofs.Ytbahfcefplgigaa
set_option linter.unusedVariables false
set_option linter.unusedSimpArgs false
open Go Go.RowKit Go.Sort

/-- Every element is a label. -/
def LabOk (l : List Int) : Prop := ∀ x ∈ l, x = 1 ∨ x = 2 ∨ x = 3
theorem LabOk.snoc {l : List Int} {x : Int} (h : LabOk l) (hx : x = 1 ∨ x = 2 ∨ x = 3) : LabOk (l ++ [x]) := by
  intro y hy
  rcases List.mem_append.1 hy with hy | hy
  · exact h y hy
  · rw [List.mem_singleton] at hy; subst hy; exact hx
/-- What a call that reads a labelling hands back. -/
def LabOut (w : World) (B b : Nat) (zs : List Int) (n : Nat) (e : Ending) (w' : World) : Prop :=
  ∃ (l : List Int) (a : Option Addr) (c k : Nat), e = .returned (.slice a n c) ∧ l.length = n ∧ LabOk l ∧ OwnI w' w.heap.size (.slice a n c) l ∧ SrcAt w' B b zs k ∧ w.grownBy w' (some b)

set_option maxRecDepth 100000 in
set_option maxHeartbeats 4000000 in
theorem kLabels_any (n : Nat) (hn : n ≤ 40) (B b : Nat) (zs : List Int) (k0 : Nat) (w : World) (hs : SrcAt w B b zs k0) :
    Calls Try.prog 11 #[.pointer (some ⟨b, 0, none⟩), .int .i64 (n : Int)] w (LabOut w B b zs n) := by
  have hb := hs.lt
  have HS := hidIt hs
  clear hs
  go_enter Try.func11, Try.ntmps11
  go_wp2_with fail
  go_loopw [5, 6] (fun v5 vi wr => ∃ (i : Nat) (l : List Int) (a : Option Addr) (c k : Nat), v5 = .slice a i c ∧ vi = .int .i64 (i : Int) ∧ i ≤ n ∧ Hid (l.length = i ∧ LabOk l) ∧ Hid (OwnI wr w.heap.size (.slice a i c) l) ∧ Hid (SrcAt wr B b zs k) ∧ Hid (w.grownBy wr (some b))) (fun _ vi _ => n - (intOf vi).toNat)
  case atStart => exact ⟨0, [], none, 0, k0, (by first | rfl | trivial), (by first | rfl | trivial), Nat.zero_le _, ⟨rfl, fun x hx => (by cases hx)⟩, OwnI.nil _ _, HS.out, only_refl _ _⟩
  case round =>
    clear HS
    obtain ⟨i, l, a, c, k, rfl, rfl, hi, HA, HO, HS, HG⟩ := hrel
    have hi0 : (0 : Int) ≤ (i : Int) := by omega
    by_cases hil : i < n
    · have hiI : (i : Int) < (n : Int) := by omega
      go_wp2_with fail
      refine (sn_nat 3 (by decide) (by decide) B b zs k wr HS.out).mono ?_
      rintro e w2 ⟨z, k2, rfl, hz, hs2, hg2⟩
      have HS2 := hidIt hs2
      have HG2 := hidIt (only_trans HG.out hg2)
      have HO2 : Hid (OwnI w2 w.heap.size (.slice a i c) l) := owns_kept HO.out fun g e => hg2.block g (owns_blk HO.out g e).2 (fun e2 => by injection e2 with e2; have := (owns_blk HO.out g e).1; omega)
      clear hs2 hg2 HS HG HO
      have hwr : IntKind.i64.wrap (1 + (z : Int)) = 1 + (z : Int) := IntWalk.i64_in _ (by omega)
      have HA2 : Hid ((l ++ [1 + (z : Int)]).length = i + 1 ∧ LabOk (l ++ [1 + (z : Int)])) := ⟨by rw [List.length_append, HA.out.1]; rfl, HA.out.2.snoc (by omega)⟩
      have hgr := bgrow w2 (.cells #[.int .i64 (1 + (z : Int))] 3)
      have HO3 := hidIt (HO2.out.go hgr)
      have HS3 := hidIt (HS2.out.alloc (.cells #[.int .i64 (1 + (z : Int))] 3))
      have HG3 := hidIt (only_alloc HG2.out (.cells #[.int .i64 (1 + (z : Int))] 3))
      have hsz3 : w.heap.size ≤ (w2.alloc (.cells #[.int .i64 (1 + (z : Int))] 3)).heap.size := HG3.out.size
      have HO7 : Hid (World.ownsRow (w2.alloc (.cells #[.int .i64 (1 + (z : Int))] 3)) w.heap.size 3 1 (.slice a i c) i (l.map (Value.int .i64))) := by
        have h := HO3.out
        unfold OwnI at h
        rw [HA.out.1] at h
        exact h
      clear hgr HO3 HS2 HG2 HO2
      go_wp2_with (at_builtin; refine Hid.out ?_)
      refine hidIt ?_
      refine wpList_append_kb rfl _ _ elemI rfl w.heap.size (.slice a i c) i _ rfl HO7.out _ 1 rfl #[.int .i64 (1 + (z : Int))] 3 (heap_alloc_new _ _) rfl (one_of (by rfl)) (by omega) hsz3 ?_
      intro g8 c8 w8 hown8 hg8 hbl8
      have hOB : ∀ g, (Value.slice a i c).ownBlock = some g → w.heap.size ≤ g := fun g e => (owns_blk HO7.out g e).1
      have HO8 : Hid (OwnI w8 w.heap.size (.slice (some ⟨g8, 0, none⟩) (i + 1) c8) (l ++ [1 + (z : Int)])) := by
        show World.ownsRow _ _ _ _ _ _ _
        rw [HA2.out.1, List.map_append]
        exact hown8
      have hsb := HS3.out.base
      have HS8 := hidIt (HS3.out.kept hg8 (fun g e => by have := hOB g e; exact ⟨by omega, by omega⟩))
      have HG8 : Hid (w.grownBy w8 (some b)) := ⟨hg8.os.trans HG3.out.os, hg8.tape.trans HG3.out.tape, hg8.output.trans HG3.out.output, Nat.le_trans HG3.out.size hg8.size, fun j hj hne => (hg8.block j (Nat.lt_of_lt_of_le hj HG3.out.size) (fun e => by have := hOB _ e.symm; omega)).trans (HG3.out.block j hj hne)⟩
      clear hown8 hg8 hbl8 hOB HO7 HS3 HG3 hsz3
      go_wp2_with fail
      go_roundw
      case rel => exact ⟨i + 1, l ++ [1 + (z : Int)], some ⟨g8, 0, none⟩, c8, k2, (by first | rfl | trivial), by go_num, by omega, HA2.out, HO8.out, HS8.out, HG8.out⟩
      case measure => simp [intOf]; omega
    · obtain rfl : i = n := by omega
      have hiI : ¬ (i : Int) < (i : Int) := by omega
      go_wp2_with fail
      go_ret
      exact ⟨l, a, c, k, rfl, HA.out.1, HA.out.2, HO.out, HS.out, HG.out⟩
end Go.Proofs.Ytbahfcefplgigaa
