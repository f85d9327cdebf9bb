/- Induced's numbering: how many kept nodes are less. -/
import Derived.Test.YtcelijjohcfhkaaDoorG0P
import Derived.Test.YtcelijjohcfhkaaDoorG0K
namespace Go.Proofs.YtcelijjohcfhkaaDoor
set_option linter.unusedVariables false
set_option linter.unusedSimpArgs false
open Go Go.RowKit Go.Sort

/-- The nodes of a list that are kept. -/
def keptB (m : Int) (zs : List Int) : BitVec 64 := zs.foldl (fun s z => if ixB z m = true then s ||| oneB z.toNat else s) 0#64
theorem keptB_step {m : Int} {zs : List Int} {k : Nat} (h : k < zs.length) : keptB m (zs.take (k + 1)) = if ixB zs[k] m = true then keptB m (zs.take k) ||| oneB zs[k].toNat else keptB m (zs.take k) := by
  unfold keptB
  rw [List.take_succ_eq_append_getElem h, List.foldl_append]
  rfl
/-- The new number of a node. -/
def renum (S : BitVec 64) (i : Nat) : Nat := (members (S &&& (oneB i - 1#64))).length
theorem one_ne {i : Nat} (h : i < 64) : oneB i ≠ 0#64 := fun e => by
  have h1 := one_toNat h
  rw [e] at h1
  have := Nat.two_pow_pos i
  have h2 : (0#64).toNat = 0 := rfl
  omega

set_option maxRecDepth 100000 in
set_option maxHeartbeats 1000000 in
theorem renum_any (S : BitVec 64) (i : Nat) (hi : i < 64) (K : Nat) (w : World) (hk : w.cell? ⟨K, 0, none⟩ = some (bv S)) (hK : K < w.heap.size) :
    Calls Tryd.prog 32 #[.int .i64 (i : Int), .pointer (some ⟨K, 0, none⟩)] w fun e w' => e = .returned (.int .i64 (renum S i : Int)) ∧ ∃ q, w' = w.drewN q := by
  have HARG : Hid (bits .and .u64 (S.toNat : Int) (IntKind.u64.wrap (IntKind.u64.wrap (2 ^ i) - 1)) = ((S &&& (oneB i - 1#64)).toNat : Int)) := by
    show _ = _
    rw [wrap_one hi, wrap_sub_one (one_ne hi), bits_and_bv]
  have HC : Hid (∀ w, Calls Tryd.prog 33 #[bv (S &&& (oneB i - 1#64))] w fun e w' => e = .returned (.int .i64 (renum S i : Int)) ∧ ∃ q, w' = w.drewN q) := fun w => (count_any _ w).mono fun e w' ⟨h1, h2⟩ => ⟨h1, 0, h2⟩
  have h0 : (0 : Int) ≤ (i : Int) := by omega
  have h64 : (i : Int) < 64 := by omega
  go_enter Tryd.func32, Tryd.ntmps32
  go_wp2_with fail
  go_quiet ((go_at_call 33; rw [HARG.out]; exact Calls.quiet_of (HC.out _)))
  go_wp2_with fail
  go_ret
  exact ⟨rfl, _, rfl⟩
end Go.Proofs.YtcelijjohcfhkaaDoor
