/- slices.Sorted(maps.Keys(m)) for a map of strings to bools that the call made: the strings in ascending order, each once. -/
import Derived.Test.YtbihnfocghcplaaGreatDoorYes
import Derived.Test.YtbihnfocghcplaaGreatDoorMapS
import Derived.Test.YtbihnfocghcplaaGreatDoorAtomsM
import Derived.Test.YtbihnfocghcplaaGreatDoorShelf
namespace Go.Proofs.YtbihnfocghcplaaGreatDoor
set_option linter.unusedVariables false
set_option linter.unusedSimpArgs false
open Go Go.RowKit Go.Maps Go.Sort Go.Shelf

theorem sortsM (m : Nat) : AnyZ.SortsIn Tryz.prog Tryz.msorted_ren Fence.wide m :=
  ⟨fun blk off cap ss W hH hblk hsz => callsIn_wide.2 (AnyM.slices_Sort_string Tryz.msort blk off cap ss W hH hblk hsz),
  fun p cap W => callsIn_wide.2 (AnyM.slices_Sort_string_none Tryz.msort p cap W)⟩

theorem keys_any (mb : Option Nat) (W : World) : Calls Tryz.prog 51 #[.map mb] W fun e w' => e = .returned (.func (.func 90) #[] #[.pointer (some ⟨W.heap.size, 0, none⟩)]) ∧ w' = W.alloc (.cells #[.map mb] 66) :=
  callsIn_wide.1 (AnyZ.keys_in Tryz.mkeys Fence.wide 5 trivial rfl mb W)

theorem setD_of (l : List ByteArray) : setD l = setOf (.lit (.bool true)) (l.map fun s => Lit.string s.data.toList) := by
  unfold setD setOf
  rw [List.foldl_map]

theorem lit_keys (l : List ByteArray) : ∀ x ∈ l.map fun s => Lit.string s.data.toList, WideAt.IsKeyLit x := fun x hx => by
  obtain ⟨s, -, rfl⟩ := List.mem_map.1 hx
  trivial

theorem setD_tidy (l : List ByteArray) : Tidy (setD l) := by rw [setD_of]; exact tidy_setOf _ _ (lit_keys l)
theorem setD_has (l : List ByteArray) (k : Lit) : has (setD l) k = (l.map fun s => Lit.string s.data.toList).any (fun x => x.sameKey k) := by rw [setD_of]; exact has_setOf _ k _ (lit_keys l)

theorem setD_size (n : Nat) : ∀ l : List ByteArray, l.length = n → Maps.size (setD l) ≤ l.length := by
  induction n with
  | zero =>
    intro l hl
    obtain rfl := List.eq_nil_of_length_eq_zero hl
    exact Nat.le_refl _
  | succ n ih =>
    intro l hl
    obtain ⟨r, x, rfl⟩ : ∃ r x, l = r ++ [x] := by
      rcases List.eq_nil_or_concat l with h | ⟨r, x, h⟩
      · subst h; simp at hl
      · exact ⟨r, x, by simpa using h⟩
    have hr : r.length = n := by simpa using hl
    have h1 := ih r hr
    rw [setD_snoc, size_put (setD_tidy r)]
    simp only [List.length_append, List.length_singleton]
    split <;> omega

theorem str_len {l : List ByteArray} {ss : List (List UInt8)} (h : ss.mergeSort (fun x y => decide (x ≤ y)) = (ascOf l).map fun s => s.data.toList) : ss.length = (ascOf l).length := by
  have h1 := congrArg List.length h
  rw [List.length_mergeSort, List.length_map] at h1
  exact h1

theorem enc_back (l : List ByteArray) : ((l.map fun s => s.data.toList).map encStr) = l.map Value.string := by
  rw [List.map_map]
  refine List.map_congr_left fun s _ => ?_
  show Value.string ⟨s.data.toList.toArray⟩ = _
  rw [Array.toArray_toList]

set_option maxHeartbeats 1000000 in
theorem sorted_any (b : Nat) (l : List ByteArray) (hl : ∀ s ∈ l, s.size ≤ maxLen) (hlen : l.length ≤ 1000000) (w : World) (hs : SetAt w b l) :
    Calls Tryz.prog 50 #[.func (.func 90) #[] #[.pointer (some ⟨w.heap.size, 0, none⟩)]] (w.alloc (.cells #[.map (some b)] 66)) fun e w' => ∃ v : Value, e = .returned v ∧
      OwnS w' (w.alloc (.cells #[.map (some b)] 66)).heap.size v (ascOf l) ∧ Below (w.alloc (.cells #[.map (some b)] 66)).heap.size (w.alloc (.cells #[.map (some b)] 66)) w' := by
  obtain ⟨nn, hnn, hown⟩ := hs
  have hbl := hown.lt
  have hk : ∃ es, setD l = .map es ∧ ∀ p ∈ es, ∃ x : List UInt8, p.1 = .string x := by
    obtain ⟨es, he, hk⟩ := hown.keysOf
    refine ⟨es, he, fun p hp => ?_⟩
    obtain ⟨key, hkey⟩ := hk p hp
    obtain ⟨x, -, hx, -⟩ := Maps.keyOf_str Tryz.underlying9 hkey
    exact ⟨x, hx⟩
  have hsize : Maps.size (setD l) ≤ l.length := setD_size l.length l rfl
  have hseq : SeqGives Fence.wide 2 Tryz.prog 90 #[.pointer (some ⟨w.heap.size, 0, none⟩)] encStr (fun ss => ss.Perm (strKeys (setD l))) (Maps.size (setD l)) (w.alloc (.cells #[.map (some b)] 66)) :=
    AnyZ.keys_gives (ρ := Tryz.mkeys_ren) { Tryz.mkeys with } Fence.wide _ trivial rfl (by omega) w.heap.size b nn (setD l) _ (by simp) (by simp) (by
      obtain ⟨es, clock, hb, Ft, hs, hD⟩ := hown
      exact ⟨es, clock, (Below.heap_alloc _ _ b hbl).trans hb, Ft, hs, hD⟩)
  refine (callsIn_wide.1 (AnyZ.sorted_in Tryz.msorted Fence.wide 5 trivial trivial trivial trivial rfl (by omega) (sortsM _) (enters_of Tryz.func89 (by kernel_rfl) rfl) 90 #[.pointer (some ⟨w.heap.size, 0, none⟩)] trivial (enters_of Tryz.func90 (by kernel_rfl) rfl) _ _ (by unfold maxLen; omega) (by omega) _ hseq)).mono ?_
  rintro e w' ⟨v, ss, he, hS, hrow, -, hb⟩
  have h1 := sort_keys (setD_tidy l) hk (setD_has l) hS
  rw [h1, str_len h1, enc_back] at hrow
  exact ⟨v, he, ⟨hrow, fun s hs => hl s ((mem_ascOf s l).1 hs)⟩, hb⟩
end Go.Proofs.YtbihnfocghcplaaGreatDoor
