/- literal.Normal, for every list: a copy, sorted by the order of literals, each once. -/
import Derived.Test.YtbldlngblmegfaaLits
namespace Go.Proofs.Ytbldlngblmegfaa
open Go.RowKit Go.Sort

theorem cmpLays (blk off size : Nat) (w : World) : CmpLays Try.prog 23 #[] encL 2 cmpI blk off size w :=
  fun _ _ _ _ x y => (compare_any x y _).mono fun _ _ ⟨he, os, hw⟩ => ⟨he, 0, os, hw⟩

theorem aggL (w : World) : (isAgg 23).run Try.prog w = .ok true w := Try.isAgg23 w
theorem sizeL (w : World) : (Go.sizeOf 23).run Try.prog w = .ok 2 w := Try.sizeOf23 w

/-- The list sorted. -/
def srt (xs : List Lt) : List Lt := xs.mergeSort fun x y => !(ltOf cmpI) y x

/-- slices.SortFunc at a row of literals. -/
theorem sort_any (blk off cap : Nat) (xs : List Lt) (w : World) (hH : HoldsK encL 2 w blk off xs.toArray) (hblk : blk < w.heap.size) (hsz : xs.length < 4611686018427387904) :
    Calls Try.prog 44 #[.slice (some ⟨blk, off, none⟩) xs.length cap, .func (.func 23) #[] #[]] w fun e w' => e = .returned (.tuple #[]) ∧ ∃ n os, w' = sortWorldK encL 2 w blk off n (srt xs).toArray os := by
  have eg : ∀ args w, (callFunc 23 args).run Try.prog w = .ok (.enter 23 args) w := enters_of Try.func23 (by kernel_rfl) rfl
  have h := AnyQ.slices_SortFunc_total Try.sortL 2 aggL sizeL encL encL_len encL_one cmpI swo 23 #[] blk off cap xs.toArray w eg (cmpLays blk off _ w) hH hblk (by simpa using hsz) lt_total
  have e : xs.toArray.size = xs.length := by simp
  rw [e] at h
  exact h

theorem sort_nil (w : World) : Calls Try.prog 44 #[.slice none 0 0, .func (.func 23) #[] #[]] w fun e w' => e = .returned (.tuple #[]) ∧ w' = w :=
  AnyF.slices_SortFunc_none Try.sortL none 0 _ w

theorem infoL : (Try.prog.info? 23).map (fun i => (i.zero, i.size, i.bytes)) = some (some (.agg #[.bool false, .string ⟨#[]⟩]), 2, 24) := by kernel_rfl

/-- slices.Clone at a list of literals. -/
theorem clone_some (b off cap : Nat) (xs : List Lt) (w : World) (hn : xs.length ≤ 1000000)
    (h : ∀ i, i < xs.length → w.cell? ⟨b, off + i * 2, none⟩ = some (.bool (xs[i]!).neg) ∧ w.cell? ⟨b, off + i * 2 + 1, none⟩ = some (.string (xs[i]!).name)) :
    Calls Try.prog 43 #[.slice (some ⟨b, off, none⟩) xs.length cap] w fun e w' => ∃ v', e = .returned v' ∧ OwnLits w' w.heap.size v' xs ∧ v' ≠ .slice none 0 0 ∧ Below w.heap.size w w' := by
  obtain ⟨i0, hi, hz0, hz1, hz2⟩ := info_parts infoL
  have hc := AnyE.slices_Clone Try.cloneL i0 _ 2 24 hi hz0 hz1 hz2 rfl (by omega) sizeL b off xs.length cap (flatL xs) w (flatL_len xs) (by unfold maxLen; omega) (by omega) (LitsAt.cells h) (flatL_one xs)
  exact hc.mono fun e w' ⟨v', he, ho, hn, hb⟩ => ⟨v', he, holds_of_owns ho hn, hn, hb⟩

theorem clone_nil (w : World) : Calls Try.prog 43 #[.slice none 0 0] w fun e w' => e = .returned (.slice none 0 0) ∧ w = w' := by
  have q22 : ∀ (w : World) (a : Option Addr) (n c n' c' : Nat), (binOp .eql 29 (.slice a n c) (.slice none n' c')).run Try.prog w = .ok (.bool a.isNone) w := fun w a n c n' c' => Lib.run_eql_slice_nil w _ _ a n c n' c' Try.underlying29
  go_enter Try.func43, Try.ntmps43
  go_wp2
  go_ret
  exact ⟨rfl, rfl⟩

theorem compact_nil (w : World) : Calls Try.prog 45 #[.slice none 0 0] w fun e w' => e = .returned (.slice none 0 0) ∧ w = w' := by
  go_enter Try.func45, Try.ntmps45
  go_wp2
  go_ret
  exact ⟨rfl, rfl⟩

/-- The list in ascending order, each once. -/
def nrm (xs : List Lt) : List Lt := cpt (srt xs).toArray

theorem srt_pair (xs : List Lt) : (srt xs).Pairwise fun a b => (!ltOf cmpI b a) = true :=
  List.pairwise_mergeSort (fun a b c h k => by
    simp only [Bool.not_eq_true'] at *
    exact swo.ntrans c b a k h) (fun a b => by
    cases h : ltOf cmpI b a
    · simp
    · have : ltOf cmpI a b = false := by
        cases k : ltOf cmpI a b
        · rfl
        · have := swo.trans a b a k h
          rw [swo.irrefl] at this
          cases this
      simp [this]) xs

theorem srt_eq {l xs : List Lt} (h : l.Perm xs) (hs : l.Pairwise fun a b => (!ltOf cmpI b a) = true) : srt xs = l :=
  List.Perm.eq_of_pairwise (le := fun a b => (!ltOf cmpI b a) = true) (fun a b _ _ h1 h2 => by
    simp only [Bool.not_eq_true'] at h1 h2
    exact lt_total a b h2 h1) (srt_pair xs) hs ((List.mergeSort_perm _ _).trans h.symm)

theorem srt_len (xs : List Lt) : (srt xs).length = xs.length := (List.mergeSort_perm _ _).length_eq

theorem below_put {a w : World} {B b off : Nat} {d : Array Lt} (h : Below B a w) (hb : B ≤ b) : Below B a (putRowK encL 2 w b off d) :=
  h.trans ⟨rfl, rfl, rfl, by simp [putRowK], fun k hk => by
    show (w.heap.modify b _)[k]? = _
    rw [Array.getElem?_modify, if_neg (by omega)]⟩
theorem below_grown {a w : World} {B : Nat} (h : Below B a w) (hB : B ≤ w.heap.size) (os : Array Obj) : Below B a (Sort.grow w os) := h.trans ((below_grow w os).mono hB)
theorem below_ahead {a w : World} {B : Nat} (h : Below B a w) (n : Nat) : Below B a (Sort.ahead w n) := ⟨h.os, h.tape, h.output, h.size, h.block⟩

theorem clone_clean (b off cap : Nat) (xs : List Lt) (w : World) (hn : xs.length ≤ 1000000)
    (h : ∀ i, i < xs.length → w.cell? ⟨b, off + i * 2, none⟩ = some (.bool (xs[i]!).neg) ∧ w.cell? ⟨b, off + i * 2 + 1, none⟩ = some (.string (xs[i]!).name)) :
    Calls Try.prog 43 #[.slice (some ⟨b, off, none⟩) xs.length cap] w fun e w' => ∃ g cap' : Nat, e = .returned (.slice (some ⟨g, 0, none⟩) xs.length cap') ∧ xs.length ≤ cap' ∧ cap' ≤ maxLen ∧ w.heap.size ≤ g ∧ g < w'.heap.size ∧ HoldsK encL 2 w' g 0 xs.toArray ∧ Below w.heap.size w w' :=
  (clone_some b off cap xs w hn h).mono fun e w' ⟨v', he, ho, hnn, hb⟩ => by
    rcases ho with h0 | ⟨g, cap', h1, h2, h3, h4, h5, h6⟩
    · exact absurd h0.1 hnn
    · exact ⟨g, cap', by rw [he, h1], h2, h3, h4, h5, h6, hb⟩

theorem sort_clean (B blk off cap : Nat) (xs : List Lt) (w : World) (hH : HoldsK encL 2 w blk off xs.toArray) (hB : B ≤ blk) (hblk : blk < w.heap.size) (hsz : xs.length < 4611686018427387904) :
    Calls Try.prog 44 #[.slice (some ⟨blk, off, none⟩) xs.length cap, .func (.func 23) #[] #[]] w fun e w' => e = .returned (.tuple #[]) ∧ HoldsK encL 2 w' blk off (srt xs).toArray ∧ Below B w w' ∧ blk < w'.heap.size :=
  (sort_any blk off cap xs w hH hblk hsz).mono fun e w' ⟨he, n, os, hw⟩ => by
    subst hw
    have hs : (srt xs).toArray.size = xs.toArray.size := by simp [srt_len]
    have hp := holdsK_putRowK encL 2 (Sort.ahead w n) blk off xs.toArray (srt xs).toArray (holdsK_ahead encL 2 w n blk off _ hH) hs
    have hlt : blk < (putRowK encL 2 (Sort.ahead w n) blk off (srt xs).toArray).heap.size := by simpa [putRowK] using hblk
    have hb : Below B w (putRowK encL 2 (Sort.ahead w n) blk off (srt xs).toArray) := below_put (below_ahead (Below.refl B w) n) hB
    refine ⟨he, holdsK_grow encL 2 _ os blk off _ hlt hp, below_grown hb (by omega) os, ?_⟩
    have := (below_grow (putRowK encL 2 (Sort.ahead w n) blk off (srt xs).toArray) os).size
    exact Nat.lt_of_lt_of_le hlt this

theorem cptRow_size (d : Array Lt) : (cpt d).length ≤ d.size ∧ (cptRow d).size = d.size := by
  have h : (cpt d).length ≤ d.size := by
    unfold cpt Lib.compactUpTo
    rw [List.length_map]
    have := List.length_filter_le (Lib.keeps d) (List.range d.size)
    rwa [List.length_range] at this
  refine ⟨h, ?_⟩
  rw [cptRow]
  simp
  omega

/-- A shorter row that is a beginning of a row that lies. -/
theorem holds_prefix {w : World} {b off : Nat} {d d' : Array Lt} (h : HoldsK encL 2 w b off d) (hs : d'.size ≤ d.size) (hg : ∀ i, i < d'.size → d'[i]! = d[i]!) : HoldsK encL 2 w b off d' := fun j hj => by
  have hj' : j < d'.size * 2 := by simpa using hj
  have h1 := h j (by rw [size_flatK]; omega)
  rw [get_flatK _ _ _ _ (by omega)] at h1
  rw [get_flatK _ _ _ _ hj', hg (j / 2) (by omega)]
  exact h1

theorem compact_clean (B blk off cap : Nat) (d : Array Lt) (w : World) (hH : HoldsK encL 2 w blk off d) (hsz : d.size ≤ 9223372036854775807) (hcap : d.size ≤ cap) (hB : B ≤ blk) (hblk : blk < w.heap.size) :
    Calls Try.prog 45 #[.slice (some ⟨blk, off, none⟩) d.size cap] w fun e w' => e = .returned (.slice (some ⟨blk, off, none⟩) (cpt d).length cap) ∧ HoldsK encL 2 w' blk off (cpt d).toArray ∧ Below B w w' ∧ blk < w'.heap.size :=
  (compact_any blk off cap d w hH hsz hcap).mono fun e w' ⟨he, q, hw⟩ => by
    subst hw
    have hc := cptRow_size d
    have hp := holdsK_putRowK encL 2 (Sort.ahead w q) blk off d (cptRow d) (holdsK_ahead encL 2 w q blk off _ hH) hc.2
    have hb : Below B w (putRowK encL 2 (Sort.ahead w q) blk off (cptRow d)) := below_put (below_ahead (Below.refl B w) q) hB
    refine ⟨he, holds_prefix hp (by simp [hc.2, hc.1]) (fun i hi => ?_), hb, by simpa [putRowK] using hblk⟩
    have hi' : i < (cpt d).length := by simpa using hi
    rw [cptRow, List.getElem!_toArray, List.getElem!_toArray]
    rw [getElem!_pos (cpt d) i hi', getElem!_pos (cpt d ++ List.replicate (d.size - (cpt d).length) default) i (by simp; omega), List.getElem_append_left hi']

theorem normal_nil (w : World) : Calls Try.prog 29 #[.slice none 0 0] w fun e w' => e = .returned (.slice none 0 0) ∧ w = w' := by
  go_enter Try.func29, Try.ntmps29
  go_wp2_with (first | (go_at_call 43; refine (clone_nil _).mono ?_; rintro e w' ⟨rfl, rfl⟩) | (go_at_call 44; refine (sort_nil _).mono ?_; rintro e w' ⟨rfl, rfl⟩) | (go_at_call 45; refine (compact_nil _).mono ?_; rintro e w' ⟨rfl, rfl⟩))
  go_ret
  exact ⟨rfl, rfl⟩

set_option maxHeartbeats 400000 in
theorem normal_some (b off cap : Nat) (xs : List Lt) (w : World) (hn : xs.length ≤ 1000000)
    (h : ∀ i, i < xs.length → w.cell? ⟨b, off + i * 2, none⟩ = some (.bool (xs[i]!).neg) ∧ w.cell? ⟨b, off + i * 2 + 1, none⟩ = some (.string (xs[i]!).name)) :
    Calls Try.prog 29 #[.slice (some ⟨b, off, none⟩) xs.length cap] w fun e w' => ∃ v', e = .returned v' ∧ OwnLits w' w.heap.size v' (nrm xs) ∧ Below w.heap.size w w' := by
  have hc := clone_clean b off cap xs w hn h
  have hsl := srt_len xs
  have HSL := hidIt hsl
  clear h hsl
  go_enter Try.func29, Try.ntmps29
  go_wp2_with fail
  refine hc.mono ?_
  rintro e w1 ⟨g, cap', rfl, k1, k2, k3, k4, k5, k6⟩
  have K5 := hidIt k5; have K6 := hidIt k6; clear k5 k6
  go_wp2_with fail
  refine (sort_clean w.heap.size g 0 cap' xs _ K5.out k3 k4 (by omega)).mono ?_
  rintro e w2 ⟨rfl, s1, s2, s3⟩
  have S1 := hidIt s1; have S2 := hidIt s2; clear s1 s2
  go_wp2_with fail
  have hcp := compact_clean w.heap.size g 0 cap' (srt xs).toArray w2 S1.out (by have := HSL.out; simp; omega) (by have := HSL.out; simp; omega) k3 s3
  have e1 : (srt xs).toArray.size = xs.length := by rw [List.size_toArray]; exact HSL.out
  rw [e1] at hcp
  refine hcp.mono ?_
  rintro e w3 ⟨rfl, p1, p2, p3⟩
  have P1 := hidIt p1; have P2 := hidIt p2; clear p1 p2 hcp e1
  go_wp2
  go_ret
  refine ⟨_, rfl, .inr ⟨g, cap', rfl, ?_, k2, k3, p3, P1.out⟩, (K6.out.trans S2.out).trans P2.out⟩
  have := (cptRow_size (srt xs).toArray).1
  rw [List.size_toArray, HSL.out] at this
  exact Nat.le_trans this k1

/-- literal.Normal, for every list. -/
theorem normal_any (v : Value) (xs : List Lt) (w : World) (h : LitsAt w v xs) (hn : xs.length ≤ 1000000) :
    Calls Try.prog 29 #[v] w fun e w' => ∃ v', e = .returned v' ∧ OwnLits w' w.heap.size v' (nrm xs) ∧ Below w.heap.size w w' := by
  rcases h with ⟨rfl, rfl⟩ | ⟨b, off, cap, rfl, h2, h3, h4, h5⟩
  · refine (normal_nil w).mono ?_
    rintro e w' ⟨rfl, rfl⟩
    exact ⟨_, rfl, .inl ⟨rfl, by simp [nrm, srt, cpt, Lib.compactUpTo]⟩, Below.refl _ _⟩
  · exact normal_some b off cap xs w hn h5
end Go.Proofs.Ytbldlngblmegfaa
