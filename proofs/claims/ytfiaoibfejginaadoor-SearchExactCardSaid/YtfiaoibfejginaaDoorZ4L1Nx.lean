/- The law LabellingOrders: for any two lists and every list of numbers it answers true. -/
import Derived.Test.YtfiaoibfejginaaDoorG0B
import Derived.Test.YtfiaoibfejginaaDoorZ4B

namespace Go.Proofs.YtfiaoibfejginaaDoor
set_option linter.unusedVariables false
set_option linter.unusedSimpArgs false
open Go Go.RowKit Go.Sort

/-- A list of lists that has been laid whole: its cells are lists that read as known ones. -/
theorem ll_blk {w : World} {b c : Nat} {vs : List Value} {zss : List (List Int)} {t : TypeId} (h : w.heap[b]? = some (.cells vs.toArray t (0, 0))) (hl : vs.length = zss.length) (hc : zss.length ≤ c) (hm : c ≤ maxLen) (hi : ∀ i (h1 : i < vs.length) (h2 : i < zss.length), IL w vs[i] zss[i]) : LL w (.slice (some ⟨b, 0, none⟩) zss.length c) zss :=
  .inr ⟨b, 0, c, rfl, hc, hm, lt_of_block h, fun i h2 => ⟨vs[i]'(by omega), by simp [World.cell?, h, show i < vs.length by omega], hi i (by omega) h2⟩⟩

end Go.Proofs.YtfiaoibfejginaaDoor
