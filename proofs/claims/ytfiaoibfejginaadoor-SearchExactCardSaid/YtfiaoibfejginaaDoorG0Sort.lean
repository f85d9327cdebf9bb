/- slices.SortFunc at lists of pairs. -/
import Derived.Test.YtfiaoibfejginaaDoorG0Cmp
namespace Go.Proofs.YtfiaoibfejginaaDoor
set_option linter.unusedVariables false
set_option linter.unusedSimpArgs false
open Go.RowKit Go.Sort
theorem aggL (w : World) : (isAgg 45).run Tryd.prog w = .ok true w := Tryd.isAgg45 w
theorem sizeL (w : World) : (Go.sizeOf 45).run Tryd.prog w = .ok 2 w := Tryd.sizeOf45 w

theorem below_put {a w : World} {B b off : Nat} {d : Array (Int × Int)} (h : Below B a w) (hb : B ≤ b) : Below B a (putRowK encP 2 w b off d) :=
  h.trans ⟨rfl, rfl, rfl, by simp [putRowK], fun k hk => by
    show (w.heap.modify b _)[k]? = _
    rw [Array.getElem?_modify, if_neg (by omega)]⟩
theorem below_grown {a w : World} {B : Nat} (h : Below B a w) (hB : B ≤ w.heap.size) (os : Array Obj) : Below B a (Sort.grow w os) := h.trans ((below_grow w os).mono hB)
theorem below_ahead {a w : World} {B : Nat} (h : Below B a w) (n : Nat) : Below B a (Sort.ahead w n) := ⟨h.os, h.tape, h.output, h.size, h.block⟩

end Go.Proofs.YtfiaoibfejginaaDoor
