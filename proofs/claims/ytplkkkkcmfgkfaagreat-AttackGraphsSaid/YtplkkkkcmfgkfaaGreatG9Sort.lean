/- slices.SortFunc and slices.Compact at lists of pairs. -/
import Derived.Test.YtplkkkkcmfgkfaaGreatG9Cmp
namespace Go.Proofs.YtplkkkkcmfgkfaaGreat
set_option linter.unusedVariables false
set_option linter.unusedSimpArgs false
open Go.RowKit Go.Sort

theorem cmpLays (blk off size : Nat) (w : World) : CmpLays Tryz.prog 15 #[] encP 2 cmpP blk off size w :=
  fun _ _ _ _ x y => cmpPairs_any x y _

theorem aggL (w : World) : (isAgg 46).run Tryz.prog w = .ok true w := Tryz.isAgg46 w
theorem sizeL (w : World) : (Go.sizeOf 46).run Tryz.prog w = .ok 2 w := Tryz.sizeOf46 w

/-- slices.SortFunc at a row of literals. -/
theorem sort_any (blk off cap : Nat) (xs : List (Int × Int)) (w : World) (hH : HoldsK encP 2 w blk off xs.toArray) (hblk : blk < w.heap.size) (hsz : xs.length < 4611686018427387904) :
    Calls Tryz.prog 14 #[.slice (some ⟨blk, off, none⟩) xs.length cap, .func (.func 15) #[] #[]] w fun e w' => e = .returned (.tuple #[]) ∧ ∃ n os, w' = sortWorldK encP 2 w blk off n (srt xs).toArray os := by
  have eg : ∀ args w, (callFunc 15 args).run Tryz.prog w = .ok (.enter 15 args) w := enters_of Tryz.func15 (by kernel_rfl) rfl
  have h := AnyQ.slices_SortFunc_total Tryz.sortL 2 aggL sizeL encP encP_len encP_one cmpP swo 15 #[] blk off cap xs.toArray w eg (cmpLays blk off _ w) hH hblk (by simpa using hsz) lt_total
  have e : xs.toArray.size = xs.length := by simp
  rw [e] at h
  exact h

theorem sort_nil (w : World) : Calls Tryz.prog 14 #[.slice none 0 0, .func (.func 15) #[] #[]] w fun e w' => e = .returned (.tuple #[]) ∧ w' = w :=
  AnyF.slices_SortFunc_none Tryz.sortL none 0 _ w

theorem infoL : (Tryz.prog.info? 46).map (fun i => (i.zero, i.size, i.bytes)) = some (some (.agg #[.int .i64 0, .int .i64 0]), 2, 16) := by kernel_rfl

/-- slices.Clone at a list of literals. -/
theorem compact_nil (w : World) : Calls Tryz.prog 16 #[.slice none 0 0] w fun e w' => e = .returned (.slice none 0 0) ∧ w = w' := by
  go_enter Tryz.func16, Tryz.ntmps16
  go_wp2
  go_ret
  exact ⟨rfl, rfl⟩

theorem below_put {a w : World} {B b off : Nat} {d : Array (Int × Int)} (h : Below B a w) (hb : B ≤ b) : Below B a (putRowK encP 2 w b off d) :=
  h.trans ⟨rfl, rfl, rfl, by simp [putRowK], fun k hk => by
    show (w.heap.modify b _)[k]? = _
    rw [Array.getElem?_modify, if_neg (by omega)]⟩
theorem below_grown {a w : World} {B : Nat} (h : Below B a w) (hB : B ≤ w.heap.size) (os : Array Obj) : Below B a (Sort.grow w os) := h.trans ((below_grow w os).mono hB)
theorem below_ahead {a w : World} {B : Nat} (h : Below B a w) (n : Nat) : Below B a (Sort.ahead w n) := ⟨h.os, h.tape, h.output, h.size, h.block⟩

theorem sort_clean (B blk off cap : Nat) (xs : List (Int × Int)) (w : World) (hH : HoldsK encP 2 w blk off xs.toArray) (hB : B ≤ blk) (hblk : blk < w.heap.size) (hsz : xs.length < 4611686018427387904) :
    Calls Tryz.prog 14 #[.slice (some ⟨blk, off, none⟩) xs.length cap, .func (.func 15) #[] #[]] w fun e w' => e = .returned (.tuple #[]) ∧ HoldsK encP 2 w' blk off (srt xs).toArray ∧ Below B w w' ∧ blk < w'.heap.size :=
  (sort_any blk off cap xs w hH hblk hsz).mono fun e w' ⟨he, n, os, hw⟩ => by
    subst hw
    have hs : (srt xs).toArray.size = xs.toArray.size := by simp [srt_len]
    have hp := holdsK_putRowK encP 2 (Sort.ahead w n) blk off xs.toArray (srt xs).toArray (holdsK_ahead encP 2 w n blk off _ hH) hs
    have hlt : blk < (putRowK encP 2 (Sort.ahead w n) blk off (srt xs).toArray).heap.size := by simpa [putRowK] using hblk
    have hb : Below B w (putRowK encP 2 (Sort.ahead w n) blk off (srt xs).toArray) := below_put (below_ahead (Below.refl B w) n) hB
    refine ⟨he, holdsK_grow encP 2 _ os blk off _ hlt hp, below_grown hb (by omega) os, ?_⟩
    have := (below_grow (putRowK encP 2 (Sort.ahead w n) blk off (srt xs).toArray) os).size
    exact Nat.lt_of_lt_of_le hlt this

theorem cptRow_size (d : Array (Int × Int)) : (cpt d).length ≤ d.size ∧ (cptRow d).size = d.size := by
  have h : (cpt d).length ≤ d.size := by
    unfold cpt Lib.compactUpTo
    rw [List.length_map]
    have := List.length_filter_le (Lib.keeps d) (List.range d.size)
    rwa [List.length_range] at this
  refine ⟨h, ?_⟩
  rw [cptRow]
  simp
  omega

/-- A shorter row that is a beginning of a row that lies. -/
theorem holds_prefix {w : World} {b off : Nat} {d d' : Array (Int × Int)} (h : HoldsK encP 2 w b off d) (hs : d'.size ≤ d.size) (hg : ∀ i, i < d'.size → d'[i]! = d[i]!) : HoldsK encP 2 w b off d' := fun j hj => by
  have hj' : j < d'.size * 2 := by simpa using hj
  have h1 := h j (by rw [size_flatK]; omega)
  rw [get_flatK _ _ _ _ (by omega)] at h1
  rw [get_flatK _ _ _ _ hj', hg (j / 2) (by omega)]
  exact h1

theorem compact_clean (B blk off cap : Nat) (d : Array (Int × Int)) (w : World) (hH : HoldsK encP 2 w blk off d) (hsz : d.size ≤ 9223372036854775807) (hcap : d.size ≤ cap) (hB : B ≤ blk) (hblk : blk < w.heap.size) :
    Calls Tryz.prog 16 #[.slice (some ⟨blk, off, none⟩) d.size cap] w fun e w' => e = .returned (.slice (some ⟨blk, off, none⟩) (cpt d).length cap) ∧ HoldsK encP 2 w' blk off (cpt d).toArray ∧ Below B w w' ∧ blk < w'.heap.size :=
  (compact_any blk off cap d w hH hsz hcap).mono fun e w' ⟨he, q, hw⟩ => by
    subst hw
    have hc := cptRow_size d
    have hp := holdsK_putRowK encP 2 (Sort.ahead w q) blk off d (cptRow d) (holdsK_ahead encP 2 w q blk off _ hH) hc.2
    have hb : Below B w (putRowK encP 2 (Sort.ahead w q) blk off (cptRow d)) := below_put (below_ahead (Below.refl B w) q) hB
    refine ⟨he, holds_prefix hp (by simp [hc.2, hc.1]) (fun i hi => ?_), hb, by simpa [putRowK] using hblk⟩
    have hi' : i < (cpt d).length := by simpa using hi
    rw [cptRow, List.getElem!_toArray, List.getElem!_toArray]
    rw [getElem!_pos (cpt d) i hi', getElem!_pos (cpt d ++ List.replicate (d.size - (cpt d).length) default) i (by simp; omega), List.getElem_append_left hi']

end Go.Proofs.YtplkkkkcmfgkfaaGreat
