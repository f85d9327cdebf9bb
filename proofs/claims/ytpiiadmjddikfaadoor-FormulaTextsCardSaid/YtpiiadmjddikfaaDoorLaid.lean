/- The package's table of signs: what the row's condition gives the walks, and the world of the witness. -/
import Derived.Test.YtpiiadmjddikfaaDoorTok
import Derived.Test.YtpiiadmjddikfaaDoorCards
import Derived.Test.YtpiiadmjddikfaaDoorTie
import Derived.ProofKit
import Derived.OpenShut
import Derived.Deep.DeepHandedRow
import Derived.Lib.LaidTab
namespace Go.Proofs.YtpiiadmjddikfaaDoor
set_option linter.unusedVariables false
set_option linter.unusedSimpArgs false
open Go.ChangeShapes Go.WideShapes Go.ChangeAt Go.RowKit

theorem ownKn' : ownKnob Tryd.prog.godebug = none := by kernel_rfl
theorem laidOutF' : laidOutB Tryd.prog = true := by kernel_rfl
theorem gSigns : Tryd.prog.globalNamed "deliberation/formula.signs" = some 0 := by kernel_rfl
theorem gSignsType : (Tryd.prog.globals[0]?).map (·.type) = some 88 := by kernel_rfl
theorem cellsArr : Tryd.prog.cellsOf 88 = 7 := by kernel_rfl
theorem cellsStr : Tryd.prog.cellsOf 9 = 1 := by kernel_rfl

/-- An array of strings that reads as these holds these. -/
theorem cells_of_texts {H : Type} {enc : TypeId × Value → H} {P : Program} {w : World} {base : Nat} {sp : Nat → Bool} {held : Bool} {fuel : Nat} {t e : TypeId} {n : Nat} {cs : List Value} {zs : List (List UInt8)} {p : List MemPlace}
    (ht : P.underlying t = some (.array n e)) (he : P.underlying e = some .string) (hce : P.cellsOf e = 1) (hct : P.cellsOf t = n)
    (h : DataW.trod enc P w base sp held fuel t cs = some (.agg (zs.map fun z => .lit (.string z)), p)) : cs = zs.map fun z => Value.string ⟨z.toArray⟩ := by
  obtain ⟨xs, m, rfl, hx, hl, hn, hel⟩ := DataW.trod_array ht h
  have hxs : xs.map (·.1) = zs.map fun z => (DataW.lit (.string z) : DataW H) := by
    have := congrArg Prod.fst hx
    simpa using this.symm
  have hzl : zs.length = n := by
    have := congrArg List.length hxs
    simp at this
    omega
  apply List.ext_getElem?
  intro i
  by_cases hi : i < n
  · have hx2 : i < xs.length := by omega
    have hf := hel i hi
    rw [List.getElem?_eq_getElem hx2, hce, Nat.mul_one] at hf
    obtain ⟨s, hc, hsx, -⟩ := DataW.trod_string he hf
    have h1 : cs[i]? = some (.string s) := by
      have := congrArg (·[0]?) hc
      simpa [List.getElem?_take, List.getElem?_drop] using this
    have h2 : (xs.map (·.1))[i]? = some (DataW.lit (.string s.data.toList) : DataW H) := by
      rw [List.getElem?_map, List.getElem?_eq_getElem hx2, hsx]
      rfl
    rw [hxs] at h2
    simp only [List.getElem?_map, Option.map_eq_some_iff, DataW.lit.injEq, Lit.string.injEq] at h2
    obtain ⟨z', hz', e2⟩ := h2
    rw [h1, List.getElem?_map, hz', e2]
    rfl
  · rw [List.getElem?_eq_none (by omega), List.getElem?_eq_none (by simp; omega)]

/-- What the row's list gives. -/
theorem signs_of_laid {W : World} (h : laidMetH Tryd.prog [("deliberation/formula.signs", Rows.laid_deliberation_formula_signs)] W) : SignsAt W := by
  obtain ⟨ps, ⟨g', t', cs, fuel, p, q, hg', ht', hvar, hd, _, _⟩, _⟩ := h
  obtain rfl := Option.some.inj (gSigns.symm.trans hg')
  obtain rfl := Option.some.inj (gSignsType.symm.trans ht')
  have hc := cells_of_texts (zs := sgn) Tryd.underlying88 Tryd.underlying9 cellsStr cellsArr hd
  have hcs : cs = #[.string ⟨#[60, 45, 62]⟩, .string ⟨#[45, 62]⟩, .string ⟨#[126]⟩, .string ⟨#[38]⟩, .string ⟨#[124]⟩, .string ⟨#[40]⟩, .string ⟨#[41]⟩] := by
    apply Array.ext'
    rw [hc]
    rfl
  subst hcs
  have hcell := World.var?_cell gSigns hvar
  have h0 : W.cell? ⟨0, 0, none⟩ = some (.string ⟨#[60, 45, 62]⟩) := hcell 0
  exact ⟨World.block_lt_of_cell? W ⟨0, 0, none⟩ h0, h0, hcell 1, hcell 2, hcell 3, hcell 4, hcell 5, hcell 6⟩

/-- A world for the witness: the settled one, the table holding what its initialiser lays. -/
noncomputable def laidWorld (os : Os) : World :=
  { World.holding Tryd.prog os ⟨#[], #[], []⟩ with heap := (World.holding Tryd.prog os ⟨#[], #[], []⟩).heap.modify 0 fun
      | .cells _ t frozen => .cells #[.string ⟨#[60, 45, 62]⟩, .string ⟨#[45, 62]⟩, .string ⟨#[126]⟩, .string ⟨#[38]⟩, .string ⟨#[124]⟩, .string ⟨#[40]⟩, .string ⟨#[41]⟩] t frozen
      | o => o }
end Go.Proofs.YtpiiadmjddikfaaDoor
