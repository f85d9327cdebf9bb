/- awake: the chapter's examples answer true. -/
import Derived.Test.YtihmdnbeonefcaaDoorZ4K

namespace Go.Proofs.YtihmdnbeonefcaaDoor
set_option linter.unusedVariables false
set_option linter.unusedSimpArgs false
open Go Go.RowKit Go.Sort

theorem pairs_blk {w : World} {b c : Nat} {ps : List (Int × Int)} {t : TypeId} (h : w.heap[b]? = some (.cells (ps.flatMap encP).toArray t (0, 0))) (hc : ps.length ≤ c) (hm : c ≤ maxLen) : PairsAt w (.slice (some ⟨b, 0, none⟩) ps.length c) ps := by
  refine .inr ⟨b, 0, c, rfl, hc, hm, lt_of_block h, fun i hi => ?_⟩
  have e0 := flatMap_get ps (i * 2) (by omega)
  have e1 := flatMap_get ps (i * 2 + 1) (by omega)
  rw [show i * 2 / 2 = i by omega, show i * 2 % 2 = 0 by omega] at e0
  rw [show (i * 2 + 1) / 2 = i by omega, show (i * 2 + 1) % 2 = 1 by omega] at e1
  constructor
  · simp [World.cell?, h, e0, encP]
  · simp [World.cell?, h, e1, encP]
theorem ints_blk {w : World} {b c : Nat} {zs : List Int} {t : TypeId} (h : w.heap[b]? = some (.cells (zs.map (Value.int .i64)).toArray t (0, 0))) (hc : zs.length ≤ c) (hm : c ≤ maxLen) : IL w (.slice (some ⟨b, 0, none⟩) zs.length c) zs :=
  .inr ⟨b, 0, c, rfl, hc, hm, lt_of_block h, fun i hi => by simp [World.cell?, h, hi]⟩
theorem IL.taken {w : World} {b n c k : Nat} {zs : List Int} (h : IL w (.slice (some ⟨b, 0, none⟩) n c) zs) (hk : k ≤ zs.length) : IL w (.slice (some ⟨b, 0, none⟩) k c) (zs.take k) := by
  rcases h with ⟨h, -⟩ | ⟨b', off, cap, h1, h2, h3, h4, h5⟩
  · cases h
  · injection h1 with h1 h6 h7
    injection h1 with h1
    injection h1 with h1 h8
    subst h1 h8 h7
    have hl : (zs.take k).length = k := by rw [List.length_take]; omega
    refine .inr ⟨b, 0, c, by rw [hl], by omega, h3, h4, fun i hi => ?_⟩
    rw [List.getElem_take]
    exact h5 i (by omega)

def exC : List (Int × Int) := [(0, 1), (1, 2)]
theorem exC_ok : GOk ((3 : Nat) : Int) exC := ⟨by decide, by decide, by decide, by decide⟩
set_option maxRecDepth 100000 in
theorem ex_fs : fsF 3 exC [2] = [3, 3, 1] := by decide
theorem ex_v1 : (validB 3 [1, 2, 1] && decide ((illL 3 exC [1, 2, 1]).length = 0)) = true := by decide
theorem ex_ill : illL 3 exC [3, 3, 1] = [0, 2] := by decide
theorem ex_cmp : cmpF [3, 3, 1] [3, 3] = 1 := by decide

end Go.Proofs.YtihmdnbeonefcaaDoor
