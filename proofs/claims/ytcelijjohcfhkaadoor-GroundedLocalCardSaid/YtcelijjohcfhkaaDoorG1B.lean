/- The order of the components: for sets whose least elements differ, where the order's own search finds a free one each time. -/
import Derived.Test.YtcelijjohcfhkaaDoorG1A
namespace Go.Proofs.YtcelijjohcfhkaaDoor
set_option linter.unusedVariables false
set_option linter.unusedSimpArgs false
open Go Go.RowKit Go.Sort

theorem ctz_le (S : BitVec 64) : ctzB S ≤ 64 := by
  by_cases h : S = 0#64
  · subst h; decide
  · exact Nat.le_of_lt (low_facts h).1
/-- How the program compares sets: by their least elements. -/
def cfU (x y : BitVec 64) : Int := (ctzB x : Int) - (ctzB y : Int)
theorem ltU_iff (x y : BitVec 64) : ltOf cfU x y = true ↔ ctzB x < ctzB y := by
  unfold ltOf cfU
  rw [decide_eq_true_iff]
  omega
theorem ltU_not (x y : BitVec 64) : ltOf cfU x y = false ↔ ctzB y ≤ ctzB x := by
  rw [← Bool.not_eq_true, ltU_iff]
  omega
theorem swoU : Sort.SWO (ltOf cfU) where
  irrefl x := by rw [ltU_not]; exact Nat.le_refl _
  trans x y z h k := by rw [ltU_iff] at *; omega
  ntrans x y z h k := by rw [ltU_not] at *; omega

set_option maxHeartbeats 1000000 in
theorem ordCmp_any (x y : BitVec 64) (w : World) (hT : Tab w) : Calls Tryd.prog 47 #[bv x, bv y] w fun e w' => e = .returned (.int .i64 (cfU x y)) ∧ w' = w := by
  have hx := ctz_le x
  have hy := ctz_le y
  have HX := hidIt (tz_any x w hT)
  have HY := hidIt (tz_any y w hT)
  unfold cfU
  clear hT
  generalize ctzB x = cx at *
  generalize ctzB y = cy at *
  have hw : IntKind.i64.wrap ((cx : Int) - (cy : Int)) = (cx : Int) - (cy : Int) := IntWalk.i64_in _ (by omega)
  go_enter Tryd.func47, Tryd.ntmps47
  go_wp2_with fail
  refine HX.out.mono ?_
  rintro e w1 ⟨rfl, rfl⟩
  go_wp2_with fail
  refine HY.out.mono ?_
  rintro e w2 ⟨rfl, rfl⟩
  go_wp2_with fail
  go_ret
  exact ⟨rfl, rfl⟩

theorem oneBv : ∀ x : BitVec 64, (bv x).oneCell' = true := fun _ => rfl
/-- A row of sets that may be turned. -/
structure RowU (w : World) (B b cap : Nat) (cs : List (BitVec 64)) : Prop where
  lo : B ≤ b
  lt : b < w.heap.size
  c1 : cs.length ≤ cap
  c2 : cap ≤ maxLen
  H : Holds bv w b 0 cs.toArray
theorem RowU.go {w w' : World} {B b cap : Nat} {cs : List (BitVec 64)} (h : RowU w B b cap cs) (hk : w'.heap[b]? = w.heap[b]?) (hs : w.heap.size ≤ w'.heap.size) : RowU w' B b cap cs :=
  ⟨h.lo, Nat.lt_of_lt_of_le h.lt hs, h.c1, h.c2, fun j hj => by
    rw [World.cell?_of_block (w := w) (w' := w') (a := ⟨b, 0 + j, none⟩) hk, World.frozen?_of_block (w := w) (w' := w') (a := ⟨b, 0 + j, none⟩) hk]
    exact h.H j hj⟩
theorem RowU.below {w w' : World} {B b cap : Nat} {cs : List (BitVec 64)} (h : RowU w B b cap cs) (hb : Below w.heap.size w w') : RowU w' B b cap cs := h.go (hb.block b h.lt) hb.size
theorem RowU.cell {w : World} {B b cap : Nat} {cs : List (BitVec 64)} (h : RowU w B b cap cs) {i : Nat} (hi : i < cs.length) : w.cell? ⟨b, i, none⟩ = some (bv cs[i]) := by
  have := (h.H i (by simpa using hi)).1
  rw [Nat.zero_add, List.getElem!_toArray, getElem!_pos cs i hi] at this
  exact this
theorem RowU.uc {w : World} {B b cap : Nat} {cs : List (BitVec 64)} (h : RowU w B b cap cs) : UC w (some ⟨b, 0, none⟩) cs := by
  by_cases he : cs = []
  · exact .inl he
  · exact .inr ⟨b, 0, rfl, h.lt, fun i hi => by rw [Nat.zero_add]; exact h.cell hi⟩
theorem below_putU {a w : World} {B b off : Nat} {d : Array (BitVec 64)} (h : Below B a w) (hb : B ≤ b) : Below B a (putRow bv w b off d) :=
  h.trans ⟨rfl, rfl, rfl, by simp [putRow, mapBlock], fun k hk => by
    show (w.heap.modify b _)[k]? = _
    rw [Array.getElem?_modify, if_neg (by omega)]⟩

theorem sorted_unique {d : List (BitVec 64)} {sorted cs : List (BitVec 64)} (h1 : d.Perm cs) (h2 : sorted.Perm cs) (h3 : sorted.Pairwise fun x y => ctzB x < ctzB y) (h4 : d.Pairwise fun x y => ctzB x ≤ ctzB y) : d = sorted := by
  have hp : d.Perm sorted := h1.trans h2.symm
  refine List.Perm.eq_of_pairwise (le := fun x y => ctzB x ≤ ctzB y) (fun a b ha hb hab hba => ?_) h4 (h3.imp fun h => Nat.le_of_lt h) hp
  have e : ctzB a = ctzB b := Nat.le_antisymm hab hba
  have ha' : a ∈ sorted := hp.mem_iff.1 ha
  obtain ⟨i, hi, rfl⟩ := List.getElem_of_mem ha'
  obtain ⟨j, hj, rfl⟩ := List.getElem_of_mem hb
  rw [List.pairwise_iff_getElem] at h3
  rcases Nat.lt_trichotomy i j with h | h | h
  · have := h3 i j hi hj h; omega
  · subst h; rfl
  · have := h3 j i hj hi h; omega

theorem sortU_any (B b cap : Nat) (cs sorted : List (BitVec 64)) (w : World) (hR : RowU w B b cap cs) (hT : Tab w) (hg : 0 < B) (hl : cs.length ≤ 1000) (h2 : sorted.Perm cs) (h3 : sorted.Pairwise fun x y => ctzB x < ctzB y) :
    Calls Tryd.prog 46 #[.slice (some ⟨b, 0, none⟩) cs.length cap, .func (.func 47) #[] #[]] w fun e w' => e = .returned (.tuple #[]) ∧ RowU w' B b cap sorted ∧ Below B w w' := by
  have eg : ∀ args w, (callFunc 47 args).run Tryd.prog w = .ok (.enter 47 args) w := enters_of Tryd.func47 (by kernel_rfl) rfl
  have hBw : B ≤ w.heap.size := Nat.le_trans hR.lo (Nat.le_of_lt hR.lt)
  have hbel : ∀ (m : Nat) (dk : Array (BitVec 64)) (os : Array Obj), Below B w (sortWorld bv w b 0 m dk os) := fun m dk os =>
    below_grown (below_putU (below_ahead (Below.refl B w) m) hR.lo) (by simp [putRow, mapBlock, Sort.ahead]; omega) os
  have hcmp : CmpLays1 Tryd.prog 47 #[] bv cfU b 0 cs.toArray.size w := fun m os dk hs x y => by
    have hTw : Tab (sortWorld bv w b 0 m dk os) := fun j hj => (Below.cell (p := ⟨0, j, none⟩) (hbel m dk os) hg).trans (hT j hj)
    exact (ordCmp_any x y _ hTw).mono fun e w' ⟨he, hw⟩ => ⟨he, 0, #[], by rw [hw]; simp [Sort.grow, World.drewN]⟩
  have h := Tryd.slices_SortFunc bv oneBv cfU swoU 47 #[] b 0 cap cs.toArray w eg hcmp hR.H hR.lt (by simp; omega)
  have e : cs.toArray.size = cs.length := by simp
  rw [e] at h
  refine h.mono ?_
  rintro e w' ⟨rfl, d', n, os, hp, hs, rfl⟩
  obtain ⟨hp1, -, hp2⟩ := hp
  rw [e] at hp1
  have hd1 : (d'.extract 0 cs.length).toList = d'.toList := by rw [← hp1]; simp
  have hd2 : (cs.toArray.extract 0 cs.length).toList = cs := by rw [← e]; simp
  rw [hd1, hd2] at hp2
  have hpw : d'.toList.Pairwise fun x y => ctzB x ≤ ctzB y := by
    rw [List.pairwise_iff_getElem]
    intro i j hi hj hij
    have := hs i j (Nat.zero_le _) hij (by simpa [hp1] using hj)
    rw [ltU_not] at this
    have hi' : i < d'.size := by simpa using hi
    have hj' : j < d'.size := by simpa using hj
    rw [getElem!_pos d' i hi', getElem!_pos d' j hj'] at this
    simpa using this
  have hd : d' = sorted.toArray := by
    have := sorted_unique hp2 h2 h3 hpw
    rw [← this]
  subst hd
  have hsz : sorted.toArray.size = cs.toArray.size := by simpa using h2.length_eq
  have hH := holds_putRow bv (Sort.ahead w n) b 0 cs.toArray sorted.toArray (holds_ahead bv w n b 0 _ hR.H) hsz
  have hlt : b < (putRow bv (Sort.ahead w n) b 0 sorted.toArray).heap.size := by simpa [putRow, mapBlock, Sort.ahead] using hR.lt
  refine ⟨rfl, ⟨hR.lo, Nat.lt_of_lt_of_le hlt (below_grow _ os).size, ?_, hR.c2, holds_grow bv _ os b 0 _ hlt hH⟩, hbel n _ os⟩
  have := h2.length_eq
  have := hR.c1
  omega

theorem cloneU_any (a : Option Addr) (cap : Nat) (cs : List (BitVec 64)) (w : World) (hc : UC w a cs) (hne : cs ≠ []) (hl : cs.length ≤ 1000) :
    Calls Tryd.prog 45 #[.slice a cs.length cap] w fun e w' => ∃ b c, e = .returned (.slice (some ⟨b, 0, none⟩) cs.length c) ∧ RowU w' w.heap.size b c cs ∧ Below w.heap.size w w' := by
  rcases hc with h | ⟨b, off, rfl, hb, hcs⟩
  · exact absurd h hne
  obtain ⟨i0, hi, hz0, hz1, hz2⟩ := info_parts infoU9
  have h := Tryd.slices_Clone i0 _ 1 8 hi hz0 hz1 hz2 rfl (by decide) (fun w => Tryd.sizeOf54 w) b off cs.length cap (cs.map bv) w (by simp) (by unfold maxLen; omega) (by omega) (fun j u hj => by
    rw [List.getElem?_map] at hj
    have hj' : j < cs.length := by
      apply Classical.byContradiction
      intro hn
      rw [List.getElem?_eq_none (by omega)] at hj
      cases hj
    rw [List.getElem?_eq_getElem hj'] at hj
    have hj2 : bv cs[j] = u := Option.some.inj hj
    rw [← hj2]
    exact hcs j hj') (fun u hu => by
    obtain ⟨x, -, rfl⟩ := List.mem_map.1 hu
    exact oneBv x)
  refine h.mono ?_
  rintro e w' ⟨v', rfl, ho, hn, hbel⟩
  rcases ho.2 with ⟨e, -⟩ | ⟨g, c, cur, rfl, hB, hg, hnc, hcm, -⟩
  · exact absurd e hn
  · refine ⟨g, c, rfl, ⟨hB, lt_of_block hg, hnc, hcm, fun j hj => ?_⟩, hbel⟩
    have hj' : j < cs.length := by simpa using hj
    refine ⟨?_, ?_⟩
    · rw [Nat.zero_add, List.getElem!_toArray, getElem!_pos cs j hj']
      exact owns_cell ho rfl j _ (by rw [List.getElem?_map, List.getElem?_eq_getElem hj']; rfl)
    · simp [World.frozen?, hg]

theorem zeroU (w : World) : (zeroValue 54).run Tryd.prog w = .ok (bv 0#64) w := by kernel_rfl
theorem deleteU_any (B b cap k : Nat) (cs : List (BitVec 64)) (w : World) (hR : RowU w B b cap cs) (hk : k < cs.length) (hl : cs.length ≤ 1000) :
    Calls Tryd.prog 51 #[.slice (some ⟨b, 0, none⟩) cs.length cap, .int .i64 (k : Int), .int .i64 ((k : Int) + 1)] w fun e w' => e = .returned (.slice (some ⟨b, 0, none⟩) (cs.eraseIdx k).length cap) ∧ RowU w' B b cap (cs.eraseIdx k) ∧ Below B w w' ∧ ∀ g, g ≠ b → w'.heap[g]? = w.heap[g]? := by
  obtain ⟨i0, hi, hz0, hz1, hz2⟩ := info_parts infoU9
  have h := AnyE.slices_Delete Tryd.delU bv oneBv 0#64 zeroU i0 hi hz1 b 0 cap k (k + 1) cs.toArray w hR.H (by simpa using hR.c1) (by have := hR.c2; unfold maxLen at this; omega) (by omega) (by simp; omega)
  have e : cs.toArray.size = cs.length := by simp
  have e2 : (cs.eraseIdx k).length = cs.length - 1 := List.length_eraseIdx_of_lt hk
  rw [e, show k + 1 - k = 1 by omega, show ((k + 1 : Nat) : Int) = (k : Int) + 1 by omega] at h
  rw [e2]
  refine h.mono ?_
  rintro e w' ⟨rfl, q, rfl⟩
  have hB : Below B w (putRow bv (Sort.ahead w q) b 0 (cs.toArray.toList.take k ++ cs.toArray.toList.drop (k + 1) ++ List.replicate 1 0#64).toArray) := below_putU (below_ahead (Below.refl B w) q) hR.lo
  have hlen : (cs.toArray.toList.take k ++ cs.toArray.toList.drop (k + 1) ++ List.replicate 1 0#64).toArray.size = cs.toArray.size := by
    simp
    omega
  have hH := holds_putRow bv (Sort.ahead w q) b 0 cs.toArray _ (holds_ahead bv w q b 0 _ hR.H) hlen
  refine ⟨rfl, ⟨hR.lo, by simpa [putRow, mapBlock, Sort.ahead] using hR.lt, by have := hR.c1; omega, hR.c2, fun j hj => ?_⟩, hB, fun g hg => ?_⟩
  · have hj' : j < (cs.eraseIdx k).length := by simpa using hj
    have h1 := hH j (by rw [hlen, e]; omega)
    have e3 : (cs.toArray.toList.take k ++ cs.toArray.toList.drop (k + 1) ++ List.replicate 1 0#64).toArray[j]! = (cs.eraseIdx k).toArray[j]! := by
      rw [List.getElem!_toArray, List.getElem!_toArray, List.eraseIdx_eq_take_drop_succ]
      have hj2 : j < (cs.take k ++ cs.drop (k + 1)).length := by rw [← List.eraseIdx_eq_take_drop_succ]; exact hj'
      rw [getElem!_pos _ j (by simp at hj2 ⊢; omega), getElem!_pos _ j hj2, List.getElem_append_left hj2]
    rw [e3] at h1
    exact h1
  · show (w.heap.modify b _)[g]? = _
    rw [Array.getElem?_modify, if_neg (fun e => hg e.symm)]
end Go.Proofs.YtcelijjohcfhkaaDoor
