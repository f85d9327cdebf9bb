/- Literals as values, and the calls that build one from numbers. -/
import Derived.Test.YtfcoplplkbeljaaGreatDoorKeep
namespace Go.Proofs.YtfcoplplkbeljaaGreatDoor
set_option linter.unusedVariables false
set_option linter.unusedSimpArgs false
open Go.RowKit

/-- A literal as the model has it. -/
structure Lt where
  neg : Bool
  name : ByteArray
deriving DecidableEq

def Lt.val (x : Lt) : Value := .agg #[.bool x.neg, .string x.name]

/-- The name of one letter. -/
def letter (m : Nat) : ByteArray := ⟨#[UInt8.ofNat (97 + m)]⟩

/-- The two cells of a block that was laid ahead of a call. -/
theorem laid_two {w w' : World} {u v : Value} {t : TypeId} {row : Option Nat} (hg : (w.alloc (.cells #[u, v] t)).grownBy w' row) (hr : row ≠ some w.heap.size) : w'.heap[w.heap.size]? = some (.cells #[u, v] t (0, 0)) := by
  rw [hg.block w.heap.size (by simp) (fun e => hr e.symm)]
  exact heap_alloc_new w _

theorem i64_and1 (n : Int) : bits .and .i64 n 1 = n % 2 := by
  have h1 : (BitVec.ofInt 64 1).toNat = 2 ^ 1 - 1 := by decide
  have key : (BitVec.ofInt 64 n &&& BitVec.ofInt 64 1).toNat = (n % ((2 ^ 64 : Nat) : Int)).toNat % 2 ^ 1 := by
    rw [BitVec.toNat_and, BitVec.toNat_ofInt, h1, Nat.and_two_pow_sub_one_eq_mod]
  show IntKind.i64.wrap ((BitVec.ofInt 64 n &&& BitVec.ofInt 64 1).toNat : Nat) = n % 2
  rw [key, IntKind.wrap_i64]
  omega

theorem only_below {w : World} {b : Nat} {o : Obj} {w' : World} (hg : (w.alloc o).grownBy w' (some b)) : w.grownBy w' (some b) := only_trans (only_alloc (only_refl w _) o) hg

set_option maxRecDepth 100000 in
set_option maxHeartbeats 400000 in
theorem slit_any (n : Int) (hn : 1 ≤ n) (hn' : n ≤ 26) (B b : Nat) (zs : List Int) (k : Nat) (w : World) (h : SrcAt w B b zs k) :
    Calls Tryz.prog 28 #[.pointer (some ⟨b, 0, none⟩), .int .i64 n] w fun e w' => ∃ (g : Bool) (m k' : Nat), e = .returned (.agg #[.bool g, .string (letter m)]) ∧ (m : Int) < n ∧ SrcAt w' B b zs k' ∧ w.grownBy w' (some b) := by
  have hlt := h.lt
  have hbB : B ≤ w.heap.size := by have := h.base; omega
  have H := hidIt h
  clear h
  go_enter Tryz.func28, Tryz.ntmps28
  go_wp2_with fail
  go_at_call 14
  refine (sn_any _ (by omega) (by omega) B b zs k _ (H.out.alloc _)).mono ?_
  rintro e w' ⟨z, k', rfl, hz, hs, hg⟩
  have hblk := laid_two hg (by simp; omega)
  have hsz : w.heap.size < w'.heap.size := by have := hg.size; simp at this; omega
  have HS := hidIt hs; have HG := hidIt hg; clear hs hg
  obtain ⟨hz0, hz1⟩ := hz
  obtain ⟨m, hm⟩ : ∃ m : Nat, z / 2 = (m : Int) := ⟨(z / 2).toNat, by omega⟩
  have hcv : (convert 34 9 (.slice (some ⟨w'.heap.size, 0, none⟩) 1 1)).run Tryz.prog (w'.alloc (.cells #[.int .u8 (97 + z / 2)] 5)) = .ok (.string (letter m)) (w'.alloc (.cells #[.int .u8 (97 + z / 2)] 5)) := by
    refine run_convert_bytes_back (P := Tryz.prog) _ 34 9 5 ⟨w'.heap.size, 0, none⟩ 1 [UInt8.ofNat (97 + m)] Tryz.underlying34 Tryz.underlying5 Tryz.underlying9 ?_
    intro j hj
    obtain rfl : j = 0 := by simpa using hj
    have : (UInt8.ofNat (97 + m)).toNat = 97 + m := by rw [UInt8.toNat_ofNat']; omega
    have e : (([UInt8.ofNat (97 + m)] : List UInt8)[0].toNat : Int) = 97 + z / 2 := by show ((UInt8.ofNat (97 + m)).toNat : Int) = _; rw [this, hm]; omega
    rw [e]
    exact cell_of_one (heap_alloc_new w' _)
  have c0 := cell_two0 hblk
  have c1 := cell_two1 hblk
  have f0 := free_any hblk 0
  have f1 := free_any hblk 1
  have HM := hidIt hm
  clear hm hblk
  go_wp2
  refine bodyPost_ret (v := .agg #[.bool (bits BinOp.and IntKind.i64 z 1 == 1), .string (letter m)]) (by simp [results, Tryz.results28, go_sem, c0, c1, hsz]) rfl ?_
  refine ⟨_, m, k', rfl, by have := HM.out; omega, ?_, ?_⟩
  · exact ((HS.out.setCell _ _ hbB (Nat.ne_of_gt hlt)).setCell _ _ hbB (Nat.ne_of_gt hlt)).alloc _
  · exact only_alloc (only_setCell (only_setCell (only_below HG.out) (.inr (Nat.le_refl _)) _) (.inr (Nat.le_refl _)) _) _
end Go.Proofs.YtfcoplplkbeljaaGreatDoor
