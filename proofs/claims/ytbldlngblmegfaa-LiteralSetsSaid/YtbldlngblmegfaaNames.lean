/- literal.Names, for every list: as many strings as there are different names. -/
import Derived.Test.YtbldlngblmegfaaNormal
import Derived.Sort.EncStr
import Derived.Laws.MakeOwn
namespace Go.Proofs.Ytbldlngblmegfaa
open Go.RowKit Go.Sort

/-- A name's bytes. -/
def nmL (x : Lt) : List UInt8 := x.name.data.toList

/-- How many names. -/
def nameCount (xs : List Lt) : Nat := (Lib.compact ((xs.map nmL).mergeSort fun x y => decide (x ≤ y))).length

theorem holds_store {w : World} {b k : Nat} {d : Array (List UInt8)} (h : Holds encStr w b 0 d) (hk : k < d.size) (s : ByteArray) : Holds encStr (w.setCell ⟨b, k, none⟩ (.string s)) b 0 (d.setIfInBounds k s.data.toList) := by
  have h1 := putRow_set encStr w b 0 d k s.data.toList hk
  rw [putRow_self encStr w b 0 d h] at h1
  have e1 : (⟨b, 0 + k, none⟩ : Addr) = ⟨b, k, none⟩ := by rw [Nat.zero_add]
  have e2 : encStr s.data.toList = .string s := by show Value.string ⟨s.data.toList.toArray⟩ = _; rw [Lib.mk_data]
  rw [e1, e2] at h1
  rw [h1]
  exact holds_putRow encStr w b 0 d _ h (by simp)

theorem holds_at {w w' : World} {b : Nat} {d : Array (List UInt8)} (h : Holds encStr w b 0 d) (hb : w'.heap[b]? = w.heap[b]?) : Holds encStr w' b 0 d := fun j hj => by
  rw [World.cell?_of_block (w := w) (w' := w') (a := ⟨b, 0 + j, none⟩) hb, World.frozen?_of_block (w := w) (w' := w') (a := ⟨b, 0 + j, none⟩) hb]
  exact h j hj

theorem infoS : (Try.prog.info? 9).map (fun i => (i.zero, i.size, i.bytes)) = some (some (.string ⟨#[]⟩), 1, 16) := by kernel_rfl

theorem make_strs (n : Nat) (hn : n ≤ 1000000) (w : World) : (Instr.makeSlice 33 (.int .i64 (n : Int)) (.int .i64 (n : Int))).run Try.prog w = .ok (.slice (some ⟨w.heap.size, 0, none⟩) n n) (w.alloc (.cells (madeCells #[.string ⟨#[]⟩] n) 9)) := by
  obtain ⟨i0, hi, hz0, hz1, hz2⟩ := info_parts infoS
  have hr := run_make (P := Try.prog) w 33 9 i0 _ Try.underlying33 hi hz0 .i64 .i64 (n : Int) (n : Int) (by omega) (by omega) (by rw [hz2]; omega) (by omega)
  rw [hz1] at hr
  simp only [Int.toNat_natCast, Nat.mul_one] at hr
  exact hr

theorem holds_made {w : World} {b n : Nat} (h : w.heap[b]? = some (.cells (madeCells #[.string ⟨#[]⟩] n) 9 (0, 0))) : Holds encStr w b 0 (Array.replicate n ([] : List UInt8)) := fun j hj => by
  have hj' : j < n := by simpa using hj
  refine ⟨?_, ?_⟩
  · simp only [World.cell?, h, Nat.zero_add, madeCells]
    simp [hj', Nat.mod_one]
  · simp [World.frozen?, h]

theorem below_putS {a w : World} {B b off : Nat} {d : Array (List UInt8)} (h : Below B a w) (hb : B ≤ b) : Below B a (putRow encStr w b off d) :=
  h.trans ⟨rfl, rfl, rfl, by simp, fun k hk => by
    show (w.heap.modify b _)[k]? = _
    rw [Array.getElem?_modify, if_neg (by omega)]⟩

theorem sortS_clean (B blk cap : Nat) (ss : List (List UInt8)) (w : World) (hH : Holds encStr w blk 0 ss.toArray) (hB : B ≤ blk) (hblk : blk < w.heap.size) (hsz : ss.length < 4611686018427387904) :
    Calls Try.prog 41 #[.slice (some ⟨blk, 0, none⟩) ss.length cap] w fun e w' => e = .returned (.tuple #[]) ∧ Holds encStr w' blk 0 (ss.mergeSort fun x y => decide (x ≤ y)).toArray ∧ Below B w w' ∧ blk < w'.heap.size :=
  (Try.slices_Sort_string blk 0 cap ss w hH hblk hsz).mono fun e w' ⟨he, n, os, hw⟩ => by
    subst hw
    have hs : (ss.mergeSort fun x y => decide (x ≤ y)).toArray.size = ss.toArray.size := by simp
    have hp := holds_putRow encStr (Sort.ahead w n) blk 0 ss.toArray _ hH hs
    have hlt : blk < (putRow encStr (Sort.ahead w n) blk 0 (ss.mergeSort fun x y => decide (x ≤ y)).toArray).heap.size := by simpa using hblk
    have hb : Below B w (putRow encStr (Sort.ahead w n) blk 0 (ss.mergeSort fun x y => decide (x ≤ y)).toArray) := below_putS (below_ahead (Below.refl B w) n) hB
    exact ⟨he, holds_grow encStr _ os blk 0 _ hlt hp, below_grown hb (by omega) os, Nat.lt_of_lt_of_le hlt (below_grow _ os).size⟩

theorem compact_le (ss : List (List UInt8)) : (Lib.compact ss).length ≤ ss.length := by
  unfold Lib.compact Lib.compactUpTo
  rw [List.length_map]
  have := List.length_filter_le (Lib.keeps ss.toArray) (List.range ss.toArray.size)
  rw [List.length_range] at this
  simpa using this

/-- The different names, ascending. -/
def namesL (xs : List Lt) : List (List UInt8) := Lib.compact ((xs.map nmL).mergeSort fun x y => decide (x ≤ y))
/-- A row of strings. -/
def SRow (w : World) (a : Option Addr) (l : List (List UInt8)) : Prop := ∀ i (h : i < l.length), ∃ b o : Nat, a = some ⟨b, o, none⟩ ∧ b < w.heap.size ∧ w.cell? ⟨b, o + i, none⟩ = some (encStr l[i])
theorem SRow.go {w w' : World} {a : Option Addr} {l : List (List UInt8)} (h : SRow w a l) (hb : Below w.heap.size w w') : SRow w' a l := fun i hi => by
  obtain ⟨b, o, h1, h2, h3⟩ := h i hi
  exact ⟨b, o, h1, Nat.lt_of_lt_of_le h2 hb.size, (hb.cell (p := ⟨b, o + i, none⟩) h2).trans h3⟩

theorem compactS_clean (B blk cap : Nat) (ss : List (List UInt8)) (w : World) (hH : Holds encStr w blk 0 ss.toArray) (hB : B ≤ blk) (hsz : ss.length ≤ 9223372036854775807) (hcap : ss.length ≤ cap) :
    Calls Try.prog 42 #[.slice (some ⟨blk, 0, none⟩) ss.length cap] w fun e w' => e = .returned (.slice (some ⟨blk, 0, none⟩) (Lib.compact ss).length cap) ∧ Holds encStr w' blk 0 (Lib.compact ss).toArray ∧ Below B w w' :=
  (Try.slices_Compact_string blk 0 cap ss w hH hsz hcap).mono fun e w' ⟨he, q, hw⟩ => by
    subst hw
    have hle := compact_le ss
    have hp := holds_putRow encStr (Sort.ahead w q) blk 0 ss.toArray (Lib.compact ss ++ List.replicate (ss.length - (Lib.compact ss).length) []).toArray (holds_ahead encStr w q blk 0 _ hH) (by simp; omega)
    refine ⟨he, fun j hj => ?_, below_putS (below_ahead (Below.refl B w) q) hB⟩
    have hj' : j < (Lib.compact ss).length := by simpa using hj
    have h1 := hp j (by simp; omega)
    rw [getElem!_pos _ j (by simp; omega)] at h1
    rw [getElem!_pos _ j hj]
    simpa [List.getElem_append_left hj'] using h1

set_option maxRecDepth 100000 in
set_option maxHeartbeats 2000000 in
theorem names_some (b off cap : Nat) (xs : List Lt) (w : World) (hn : xs.length ≤ 1000000) (hb : b < w.heap.size)
    (h : ∀ i, i < xs.length → w.cell? ⟨b, off + i * 2, none⟩ = some (.bool (xs[i]!).neg) ∧ w.cell? ⟨b, off + i * 2 + 1, none⟩ = some (.string (xs[i]!).name)) :
    Calls Try.prog 26 #[.slice (some ⟨b, off, none⟩) xs.length cap] w fun e w' => ∃ (a : Option Addr) (c : Nat), e = .returned (.slice a (nameCount xs) c) ∧ SRow w' a (namesL xs) ∧ Below w.heap.size w w' := by
  have HH := hidIt h
  have hmk := fun w => make_strs xs.length hn w
  clear h
  go_enter Try.func26, Try.ntmps26
  go_wp2_with fail
  go_loopw [11] (fun i wr => ∃ (k : Nat) (d : Array (List UInt8)), k ≤ xs.length ∧ i = .int .i64 k ∧ Hid (d.size = xs.length) ∧ Hid (∀ i, i < k → d[i]! = nmL xs[i]!) ∧ Hid (Holds encStr wr w.heap.size 0 d) ∧ Hid (w.heap.size < wr.heap.size) ∧ Hid (Below w.heap.size w wr)) (fun i _ => xs.length - (intOf i).toNat)
  case atStart => exact ⟨0, Array.replicate xs.length [], Nat.zero_le _, rfl, by show _ = _; simp, fun i hi => by omega, holds_made (heap_alloc_new w _), by show _ < _; simp, (Below.refl _ _).alloc (Nat.le_refl _) _⟩
  case round =>
    clear hmk
    obtain ⟨k, d, hk, rfl, hds, hd, hH, hlt0, hbel⟩ := hrel
    by_cases hlt : k < xs.length
    · obtain ⟨c0, c1⟩ := HH.out k hlt
      rw [← hbel.out.cell (p := ⟨b, off + k * 2, none⟩) hb] at c0
      rw [← hbel.out.cell (p := ⟨b, off + k * 2 + 1, none⟩) hb] at c1
      have hkd : k < d.size := by rw [hds.out]; exact hlt
      obtain ⟨s0, f0⟩ := hH.out k hkd
      rw [Nat.zero_add] at s0 f0
      have hw0 := hlt0.out
      obtain ⟨x, hx⟩ : ∃ x, x = xs[k]! := ⟨_, rfl⟩
      rw [← hx] at c0 c1
      have HX := hidIt hx
      clear hx
      obtain ⟨g, s⟩ := x
      simp only at c0 c1
      generalize encStr d[k]! = old at s0
      go_wp2
      go_roundw
      case rel =>
        refine ⟨k + 1, d.setIfInBounds k s.data.toList, by omega, by go_num, by show _ = _; rw [Array.size_setIfInBounds]; exact hds.out, fun i hi => ?_, ?_, ?_, ?_⟩
        · by_cases e : i = k
          · subst e
            rw [getElem!_set_same d i _ hkd, ← HX.out]
            rfl
          · rw [getElem!_set_other d k i _ e]
            exact hd.out i (by omega)
        · exact holds_at (holds_store hH.out hkd s) (Below.heap_alloc _ _ _ (by simpa [World.setCell] using hw0))
        · show _ < _; simp [World.setCell]; omega
        · exact (hbel.out.setCell (Nat.le_refl _) _).alloc (by simp [World.setCell]; omega) _
      case measure => simp [intOf]; omega
    · have hkn : k = xs.length := by omega
      have hl : (xs.map nmL).length = xs.length := List.length_map _
      have hdd : d = (xs.map nmL).toArray := by
        apply Array.ext
        · rw [hds.out, List.size_toArray, hl]
        · intro i h1 h2
          have h1' : i < xs.length := by rw [← hds.out]; exact h1
          have := hd.out i (by omega)
          rw [getElem!_pos d i h1, getElem!_pos xs i h1'] at this
          rw [this]
          simp
      have hH2 : Hid (Holds encStr wr w.heap.size 0 (xs.map nmL).toArray) := by rw [← hdd]; exact hH.out
      have hc1 := sortS_clean w.heap.size w.heap.size xs.length (xs.map nmL) wr hH2.out (Nat.le_refl _) hlt0.out (by rw [hl]; omega)
      rw [hl] at hc1
      have HC1 := hidIt hc1
      clear hc1 hdd hH hd hds hkn HH
      go_wp2_with fail
      refine HC1.out.mono ?_
      rintro e w2 ⟨rfl, hh2, hb2, hl2⟩
      have hl' : ((xs.map nmL).mergeSort fun x y => decide (x ≤ y)).length = xs.length := by rw [List.length_mergeSort, hl]
      have hc2 := compactS_clean w.heap.size w.heap.size xs.length ((xs.map nmL).mergeSort fun x y => decide (x ≤ y)) w2 hh2 (Nat.le_refl _) (by rw [hl']; omega) (by rw [hl']; exact Nat.le_refl _)
      rw [hl'] at hc2
      have HC2 := hidIt hc2
      have HB2 := hidIt (hbel.out.trans hb2)
      clear hc2 hh2 hl hl' hb2
      go_wp2_with fail
      refine HC2.out.mono ?_
      rintro e w3 ⟨rfl, hh3, hb3⟩
      have HB3 := hidIt (HB2.out.trans hb3)
      have HH3 := hidIt hh3
      have HL3 : Hid (w.heap.size < w3.heap.size) := Nat.lt_of_lt_of_le hl2 hb3.size
      clear hb3 hh3
      go_wp2
      go_ret
      refine ⟨_, _, rfl, fun i hi => ⟨w.heap.size, 0, rfl, HL3.out, ?_⟩, HB3.out⟩
      have h1 := (HH3.out i (by simpa [namesL] using hi)).1
      rw [getElem!_pos _ i (by simpa [namesL] using hi)] at h1
      simpa [namesL] using h1

set_option maxHeartbeats 1000000 in
theorem names_nil (w : World) : Calls Try.prog 26 #[.slice none 0 0] w fun e w' => ∃ (a : Option Addr) (c : Nat), e = .returned (.slice a 0 c) ∧ Below w.heap.size w w' := by
  have hmk : ∀ w : World, (Instr.makeSlice 33 (.int .i64 0) (.int .i64 0)).run Try.prog w = .ok (.slice (some ⟨w.heap.size, 0, none⟩) 0 0) (w.alloc (.cells (madeCells #[.string ⟨#[]⟩] 0) 9)) := fun w => make_strs 0 (by omega) w
  go_enter Try.func26, Try.ntmps26
  go_wp2_with fail
  refine wp_loop_rounds 1 ?_
  rw [rounds_succ]
  go_wp2_with fail
  refine (Try.slices_Sort_string_none _ _ _).mono ?_
  rintro e w2 ⟨rfl, rfl⟩
  go_wp2_with fail
  refine (Try.slices_Compact_string_empty _ _ _).mono ?_
  rintro e w3 ⟨rfl, rfl⟩
  go_wp2
  go_ret
  exact ⟨_, _, rfl, (Below.refl _ _).alloc (Nat.le_refl _) _⟩

theorem nameCount_nil : nameCount [] = 0 := by
  unfold nameCount
  simp [Lib.compact, Lib.compactUpTo]

/-- literal.Names, for every list: as many strings as there are different names. -/
theorem names_full (v : Value) (xs : List Lt) (w : World) (h : LitsAt w v xs) (hn : xs.length ≤ 1000000) :
    Calls Try.prog 26 #[v] w fun e w' => ∃ (a : Option Addr) (c : Nat), e = .returned (.slice a (nameCount xs) c) ∧ SRow w' a (namesL xs) ∧ Below w.heap.size w w' := by
  rcases h with ⟨rfl, rfl⟩ | ⟨b, off, cap, rfl, h2, h3, h4, h5⟩
  · rw [nameCount_nil]
    refine (names_nil w).mono fun e w' ⟨a, c, he, hb⟩ => ⟨a, c, he, fun i hi => ?_, hb⟩
    have : (namesL []).length = 0 := nameCount_nil
    omega
  · exact names_some b off cap xs w hn h4 h5
/-- .. -/
theorem names_any (v : Value) (xs : List Lt) (w : World) (h : LitsAt w v xs) (hn : xs.length ≤ 1000000) :
    Calls Try.prog 26 #[v] w fun e w' => ∃ (a : Option Addr) (c : Nat), e = .returned (.slice a (nameCount xs) c) ∧ Below w.heap.size w w' := by
  exact (names_full v xs w h hn).mono fun e w' ⟨a, c, he, _, hb⟩ => ⟨a, c, he, hb⟩
end Go.Proofs.Ytbldlngblmegfaa
