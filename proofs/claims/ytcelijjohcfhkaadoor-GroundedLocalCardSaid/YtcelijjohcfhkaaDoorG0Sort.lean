/- slices.SortFunc at lists of pairs. -/
import Derived.Test.YtcelijjohcfhkaaDoorG0Cmp
namespace Go.Proofs.YtcelijjohcfhkaaDoor
set_option linter.unusedVariables false
set_option linter.unusedSimpArgs false
open Go.RowKit Go.Sort

theorem cmpLays (blk off size : Nat) (w : World) : CmpLays Tryd.prog 42 #[] encP 2 cmpP blk off size w :=
  fun _ _ _ _ x y => cmpPairs_any x y _

theorem aggL (w : World) : (isAgg 43).run Tryd.prog w = .ok true w := Tryd.isAgg43 w
theorem sizeL (w : World) : (Go.sizeOf 43).run Tryd.prog w = .ok 2 w := Tryd.sizeOf43 w

/-- slices.SortFunc at a row of literals. -/
theorem sort_any (blk off cap : Nat) (xs : List (Int × Int)) (w : World) (hH : HoldsK encP 2 w blk off xs.toArray) (hblk : blk < w.heap.size) (hsz : xs.length < 4611686018427387904) :
    Calls Tryd.prog 41 #[.slice (some ⟨blk, off, none⟩) xs.length cap, .func (.func 42) #[] #[]] w fun e w' => e = .returned (.tuple #[]) ∧ ∃ n os, w' = sortWorldK encP 2 w blk off n (srt xs).toArray os := by
  have eg : ∀ args w, (callFunc 42 args).run Tryd.prog w = .ok (.enter 42 args) w := enters_of Tryd.func42 (by kernel_rfl) rfl
  have h := AnyQ.slices_SortFunc_total Tryd.sortL 2 aggL sizeL encP encP_len encP_one cmpP swo 42 #[] blk off cap xs.toArray w eg (cmpLays blk off _ w) hH hblk (by simpa using hsz) lt_total
  have e : xs.toArray.size = xs.length := by simp
  rw [e] at h
  exact h

theorem sort_nil (w : World) : Calls Tryd.prog 41 #[.slice none 0 0, .func (.func 42) #[] #[]] w fun e w' => e = .returned (.tuple #[]) ∧ w' = w :=
  AnyF.slices_SortFunc_none Tryd.sortL none 0 _ w

theorem infoL : (Tryd.prog.info? 43).map (fun i => (i.zero, i.size, i.bytes)) = some (some (.agg #[.int .i64 0, .int .i64 0]), 2, 16) := by kernel_rfl

theorem below_put {a w : World} {B b off : Nat} {d : Array (Int × Int)} (h : Below B a w) (hb : B ≤ b) : Below B a (putRowK encP 2 w b off d) :=
  h.trans ⟨rfl, rfl, rfl, by simp [putRowK], fun k hk => by
    show (w.heap.modify b _)[k]? = _
    rw [Array.getElem?_modify, if_neg (by omega)]⟩
theorem below_grown {a w : World} {B : Nat} (h : Below B a w) (hB : B ≤ w.heap.size) (os : Array Obj) : Below B a (Sort.grow w os) := h.trans ((below_grow w os).mono hB)
theorem below_ahead {a w : World} {B : Nat} (h : Below B a w) (n : Nat) : Below B a (Sort.ahead w n) := ⟨h.os, h.tape, h.output, h.size, h.block⟩

theorem sort_clean (B blk off cap : Nat) (xs : List (Int × Int)) (w : World) (hH : HoldsK encP 2 w blk off xs.toArray) (hB : B ≤ blk) (hblk : blk < w.heap.size) (hsz : xs.length < 4611686018427387904) :
    Calls Tryd.prog 41 #[.slice (some ⟨blk, off, none⟩) xs.length cap, .func (.func 42) #[] #[]] w fun e w' => e = .returned (.tuple #[]) ∧ HoldsK encP 2 w' blk off (srt xs).toArray ∧ Below B w w' ∧ blk < w'.heap.size :=
  (sort_any blk off cap xs w hH hblk hsz).mono fun e w' ⟨he, n, os, hw⟩ => by
    subst hw
    have hs : (srt xs).toArray.size = xs.toArray.size := by simp [srt_len]
    have hp := holdsK_putRowK encP 2 (Sort.ahead w n) blk off xs.toArray (srt xs).toArray (holdsK_ahead encP 2 w n blk off _ hH) hs
    have hlt : blk < (putRowK encP 2 (Sort.ahead w n) blk off (srt xs).toArray).heap.size := by simpa [putRowK] using hblk
    have hb : Below B w (putRowK encP 2 (Sort.ahead w n) blk off (srt xs).toArray) := below_put (below_ahead (Below.refl B w) n) hB
    refine ⟨he, holdsK_grow encP 2 _ os blk off _ hlt hp, below_grown hb (by omega) os, ?_⟩
    have := (below_grow (putRowK encP 2 (Sort.ahead w n) blk off (srt xs).toArray) os).size
    exact Nat.lt_of_lt_of_le hlt this

end Go.Proofs.YtcelijjohcfhkaaDoor
