/- What the rows' proofs share: a list of ints that came in, as the walks are told of it. -/
import Derived.Test.YtfiaoibfejginaaDoorNew
import Derived.ProofKit
import Derived.OpenShut
import Derived.ShutString
import Derived.ChangeOld
namespace Go.Proofs.YtfiaoibfejginaaDoor
set_option linter.unusedVariables false
set_option linter.unusedSimpArgs false
open Go.ChangeShapes Go.WideShapes Go.ChangeAt Go.RowKit

theorem ownKn : ownKnob Tryd.prog.godebug = none := by kernel_rfl
theorem laidOutF : laidOutB Tryd.prog = true := by kernel_rfl

/-- A list of ints that came in: nil, or a row of as many cells as it may grow to. -/
def IsRow (w : World) (a : Option Addr) (len cap : Nat) (zs : List Int) : Prop :=
  (a = none ∧ len = 0 ∧ cap = 0 ∧ zs = []) ∨
  ∃ x, a = some x ∧ len ≤ cap ∧ cap ≤ maxLen ∧ zs.length = cap ∧ (∀ i, i < zs.length → w.cell? (x.add i) = some (.int .i64 (zs.getD i 0))) ∧ ∀ n ∈ zs, (Lit.int .i64 n).wf = true

theorem spot_none {x : Addr} {w : World} {v : Value} (h : w.cell? (x.add 0) = some v) : x = ⟨x.block, x.off, none⟩ := by
  obtain ⟨b, off, spot⟩ := x
  cases spot with
  | none => rfl
  | some s =>
    exfalso
    unfold World.cell? at h
    unfold Addr.add at h
    split at h
    · split at h <;> simp_all
    · cases h

theorem add_plain (b off i : Nat) : (⟨b, off, none⟩ : Addr).add i = ⟨b, off + i, none⟩ := by unfold Addr.add; split <;> simp_all

theorem ints_of_row {w : World} {a : Option Addr} {len cap : Nat} {zs : List Int} (h : IsRow w a len cap zs) : IntsAt w w.heap.size (.slice a len cap) (zs.take len) := by
  rcases h with ⟨rfl, rfl, rfl, rfl⟩ | ⟨x, rfl, h1, h2, h3, h4, h5⟩
  · exact .inl ⟨rfl, rfl⟩
  · have hl : (zs.take len).length = len := by rw [List.length_take]; omega
    refine .inr ⟨x, cap, by rw [hl], by omega, h2, fun i hi => ?_, fun i => ?_⟩
    · rw [hl] at hi
      have hc := h4 i (by omega)
      have e1 := spot_none (h4 0 (by omega))
      rw [e1, add_plain] at hc
      exact ⟨x.block, x.off, e1, World.block_lt_of_cell? w ⟨x.block, x.off + i, none⟩ hc, by rw [getD_take, if_pos hi]; exact hc⟩
    · rw [getD_take]
      split
      · by_cases hi : i < zs.length
        · have hm : zs.getD i 0 ∈ zs := by
            rw [List.getD_eq_getElem?_getD, List.getElem?_eq_getElem hi]
            exact List.getElem_mem hi
          have hw := h5 _ hm
          simp only [Lit.wf, Bool.and_eq_true, decide_eq_true_eq] at hw
          exact hw
        · rw [List.getD_eq_getElem?_getD, List.getElem?_eq_none (by omega)]
          simp
      · omega
end Go.Proofs.YtfiaoibfejginaaDoor
