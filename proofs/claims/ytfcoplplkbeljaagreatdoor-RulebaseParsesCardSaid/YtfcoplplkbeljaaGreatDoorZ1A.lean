/- The plain mathematics of the order of literals: it is total, and two that are not ordered are one. A list of literals in memory: two cells for each; the laws on stores into it. slices.Compact at a list of literals: for every list, the elements that differ from the one ahead of them; the library's own two loops are walked. A value that is a list of literals: where its cells lie, and what keeps it so. literal.Normal, for every list: a copy, sorted by the order of literals, each once. -/
import Derived.Test.YtfcoplplkbeljaaGreatDoorComp
import Derived.Shelf.SlSortCmp.Insertion
import Derived.Sort.Statements
import Derived.Shelf.GgSortFunc.RowK
import Derived.Lib.SlicesCompact
import Derived.Lib.SliceRun
import Derived.Laws.IdiomCopy
import Derived.Deep.LoopGhost
import Derived.Laws.StructEq

namespace Go.Proofs.YtfcoplplkbeljaaGreatDoor
set_option linter.unusedVariables false
set_option linter.unusedSimpArgs false
open Go.RowKit

theorem cb_self : ∀ a : List UInt8, Lib.compareBytes a a = 0
  | [] => by simp [Lib.compareBytes]
  | a :: at1 => by simp [Lib.compareBytes, cb_self at1]

theorem cb_swap : ∀ a b : List UInt8, Lib.compareBytes b a = - Lib.compareBytes a b
  | [], [] => by simp [Lib.compareBytes]
  | [], b :: bt1 => by simp [Lib.compareBytes]
  | a :: at1, [] => by simp [Lib.compareBytes]
  | a :: at1, b :: bt1 => by
    simp only [Lib.compareBytes]
    by_cases h1 : a < b
    · have h2 : ¬ b < a := by rw [UInt8.lt_iff_toNat_lt] at *; omega
      simp [h1, h2]
    · by_cases h2 : b < a
      · simp [h1, h2]
      · simp [h1, h2, cb_swap at1 bt1]

theorem cb_eq : ∀ a b : List UInt8, Lib.compareBytes a b = 0 → a = b
  | [], [], _ => rfl
  | [], b :: bt1, h => by simp [Lib.compareBytes] at h
  | a :: at1, [], h => by simp [Lib.compareBytes] at h
  | a :: at1, b :: bt1, h => by
    simp only [Lib.compareBytes] at h
    by_cases h1 : a < b
    · simp [h1] at h
    · by_cases h2 : b < a
      · simp [h1, h2] at h
      · have e : a = b := by
          rw [UInt8.lt_iff_toNat_lt] at *
          exact UInt8.toNat_inj.1 (by omega)
        simp [h1, h2] at h
        rw [e, cb_eq at1 bt1 h]

theorem cb_bd : ∀ a b : List UInt8, Lib.compareBytes a b = -1 ∨ Lib.compareBytes a b = 0 ∨ Lib.compareBytes a b = 1
  | [], [] => by simp [Lib.compareBytes]
  | [], b :: bt1 => by simp [Lib.compareBytes]
  | a :: at1, [] => by simp [Lib.compareBytes]
  | a :: at1, b :: bt1 => by
    simp only [Lib.compareBytes]
    split
    · simp
    · split
      · simp
      · exact cb_bd at1 bt1

theorem cb_trans : ∀ a b c : List UInt8, Lib.compareBytes a b < 0 → Lib.compareBytes b c < 0 → Lib.compareBytes a c < 0
  | [], [], _, h, _ => by simp [Lib.compareBytes] at h
  | a :: at1, [], _, h, _ => by simp [Lib.compareBytes] at h
  | _, b :: bt1, [], _, h => by simp [Lib.compareBytes] at h
  | [], b :: bt1, c :: ct1, _, _ => by simp [Lib.compareBytes]
  | a :: at1, b :: bt1, c :: ct1, h, k => by
    simp only [Lib.compareBytes] at *
    by_cases h1 : a < b
    · by_cases k1 : b < c
      · have : a < c := by rw [UInt8.lt_iff_toNat_lt] at *; omega
        simp [this]
      · by_cases k2 : c < b
        · simp [k1, k2] at k
        · have : a < c := by rw [UInt8.lt_iff_toNat_lt] at *; omega
          simp [this]
    · by_cases h2 : b < a
      · simp [h1, h2] at h
      · by_cases k1 : b < c
        · have : a < c := by rw [UInt8.lt_iff_toNat_lt] at *; omega
          simp [this]
        · by_cases k2 : c < b
          · simp [k1, k2] at k
          · have n1 : ¬ a < c := by rw [UInt8.lt_iff_toNat_lt] at *; omega
            have n2 : ¬ c < a := by rw [UInt8.lt_iff_toNat_lt] at *; omega
            simp [h1, h2] at h
            simp [k1, k2] at k
            simp [n1, n2]
            exact cb_trans at1 bt1 ct1 h k

theorem bytes_eq {a b : ByteArray} (h : a.data.toList = b.data.toList) : a = b := by
  obtain ⟨⟨a⟩⟩ := a
  obtain ⟨⟨b⟩⟩ := b
  simp only at h
  rw [h]

theorem names_same (a b : ByteArray) : (a.toList == b.toList) = decide (a = b) := by
  rw [Lib.toList_data, Lib.toList_data, Bool.eq_iff_iff]
  simp only [beq_iff_eq, decide_eq_true_eq]
  exact ⟨bytes_eq, fun h => by rw [h]⟩

theorem cmpI_eq' (x y : Lt) : cmpI x y = if x.name = y.name then (if x.neg = y.neg then 0 else if y.neg then -1 else 1) else Lib.compareBytes x.name.data.toList y.name.data.toList := by
  unfold cmpI
  rw [names_same]
  simp only [decide_eq_true_eq, beq_iff_eq]

theorem cmpI_self (x : Lt) : cmpI x x = 0 := by rw [cmpI_eq']; simp

theorem cmpI_bd (x y : Lt) : cmpI x y = -1 ∨ cmpI x y = 0 ∨ cmpI x y = 1 := by
  rw [cmpI_eq']
  split
  · split
    · simp
    · split <;> simp
  · exact cb_bd _ _

theorem cmpI_swap (x y : Lt) : cmpI y x = - cmpI x y := by
  rw [cmpI_eq', cmpI_eq']
  by_cases h : x.name = y.name
  · rw [if_pos h, if_pos h.symm]
    cases x.neg <;> cases y.neg <;> simp
  · rw [if_neg h, if_neg (fun e => h e.symm), cb_swap]

theorem cmpI_zero {x y : Lt} (h : cmpI x y = 0) : x = y := by
  rw [cmpI_eq'] at h
  obtain ⟨g, s⟩ := x
  obtain ⟨g', s'⟩ := y
  simp only at h
  split at h
  · rename_i hn
    subst hn
    cases g <;> cases g' <;> simp at h ⊢
  · rename_i hn
    exact absurd (bytes_eq (cb_eq _ _ h)) hn

theorem cmpI_trans {x y z : Lt} (h : cmpI x y < 0) (k : cmpI y z < 0) : cmpI x z < 0 := by
  obtain ⟨g, s⟩ := x
  obtain ⟨g', s'⟩ := y
  obtain ⟨g'', s''⟩ := z
  rw [cmpI_eq'] at *
  simp only at *
  by_cases h1 : s = s'
  · subst h1
    by_cases k1 : s = s''
    · subst k1
      cases g <;> cases g' <;> cases g'' <;> simp at *
    · rw [if_neg k1] at *
      exact k
  · rw [if_neg h1] at h
    by_cases k1 : s' = s''
    · subst k1
      rw [if_neg h1]
      exact h
    · rw [if_neg k1] at k
      have t := cb_trans _ _ _ h k
      have hne : s ≠ s'' := fun e => by
        subst e
        rw [cb_self] at t
        omega
      rw [if_neg hne]
      exact t

theorem swo : Sort.SWO (ltOf cmpI) where
  irrefl x := by simp [ltOf, cmpI_self]
  trans x y z h k := by
    simp only [ltOf, decide_eq_true_eq] at *
    exact cmpI_trans h k
  ntrans x y z h k := by
    simp only [ltOf, decide_eq_false_iff_not] at *
    have a := cmpI_swap x y
    have b := cmpI_swap y z
    have c := cmpI_swap x z
    rcases cmpI_bd x y with h1 | h1 | h1
    · omega
    · rw [cmpI_zero h1]; exact k
    · rcases cmpI_bd y z with k1 | k1 | k1
      · omega
      · rw [← cmpI_zero k1]; exact h
      · have := cmpI_trans (x := z) (y := y) (z := x) (by omega) (by omega)
        omega

theorem lt_total (x y : Lt) (h : ltOf cmpI x y = false) (k : ltOf cmpI y x = false) : x = y := by
  simp only [ltOf, decide_eq_false_iff_not] at *
  have := cmpI_swap x y
  exact cmpI_zero (by omega)
end Go.Proofs.YtfcoplplkbeljaaGreatDoor

namespace Go.Proofs.YtfcoplplkbeljaaGreatDoor
set_option linter.unusedVariables false
set_option linter.unusedSimpArgs false
open Go.RowKit Go.Sort

instance : Inhabited Lt := ⟨⟨false, ⟨#[]⟩⟩⟩

/-- The two cells of a literal. -/
def encL (x : Lt) : List Value := [.bool x.neg, .string x.name]
theorem encL_len (x : Lt) : (encL x).length = 2 := rfl
theorem encL_one (x : Lt) : ∀ v ∈ encL x, v.oneCell' = true := fun v hv => by
  simp only [encL, List.mem_cons, List.not_mem_nil, or_false] at hv
  rcases hv with rfl | rfl <;> rfl

theorem encL_get0 (x : Lt) : (encL x)[0]! = .bool x.neg := rfl
theorem encL_get1 (x : Lt) : (encL x)[1]! = .string x.name := rfl

theorem flat_set (d : Array Lt) (i : Nat) (x : Lt) (hi : i < d.size) : setMany (flatK encL 2 d) (i * 2) (encL x) = flatK encL 2 (d.setIfInBounds i x) := by
  refine ext_get! (by simp) fun t ht => ?_
  have ht' : t < d.size * 2 := by simpa using ht
  rw [get_setMany _ _ _ t (by simpa using ht'), get_flatK _ _ _ t ht', get_flatK _ _ _ t (by simpa using ht'), encL_len]
  by_cases h : t / 2 = i
  · rw [if_pos (by omega), h, getElem!_set_same d i x hi, show t - i * 2 = t % 2 by omega]
  · rw [if_neg (by omega), getElem!_set_other d i (t / 2) x h]

theorem size_lay' : ∀ (xs : List Lt) (d : Array Lt) (k : Nat), (Lib.lay d k xs).size = d.size
  | [], _, _ => rfl
  | x :: r, d, k => by rw [Lib.lay, size_lay' r]; simp

/-- The flat row behind a run of whole elements. -/
theorem flat_lay (d d2 : Array Lt) (k : Nat) (hk : k + d2.size ≤ d.size) : setMany (flatK encL 2 d) (k * 2) (flatK encL 2 d2).toList = flatK encL 2 (Lib.lay d k d2.toList) := by
  have hsz : (Lib.lay d k d2.toList).size = d.size := size_lay' _ _ _
  refine ext_get! (by simp [hsz]) fun t ht => ?_
  have ht' : t < d.size * 2 := by simpa using ht
  have hl : (flatK encL 2 d2).toList.length = d2.size * 2 := by simp
  rw [get_setMany _ _ _ t (by simpa using ht'), get_flatK _ _ _ t ht', get_flatK _ _ _ t (by rw [hsz]; exact ht'), hl]
  have hg := Lib.lay_get? d2.toList d k (t / 2) (by simpa using hk)
  by_cases h : k ≤ t / 2 ∧ t / 2 < k + d2.size
  · rw [if_pos (by omega)]
    rw [if_pos (by simpa using h)] at hg
    have e1 : (flatK encL 2 d2).toList[t - k * 2]! = (encL d2[(t - k * 2) / 2]!)[(t - k * 2) % 2]! := by
      have := get_flatK encL 2 d2 (t - k * 2) (by omega)
      rw [← this]
      simp [getElem!_def]
    rw [e1, show (t - k * 2) / 2 = t / 2 - k by omega, show (t - k * 2) % 2 = t % 2 by omega]
    have e2 : (Lib.lay d k d2.toList)[t / 2]! = d2[t / 2 - k]! := by
      rw [getElem!_def, getElem!_def, hg]
      simp
    rw [e2]
  · rw [if_neg (by omega)]
    rw [if_neg (by simpa using h)] at hg
    have e2 : (Lib.lay d k d2.toList)[t / 2]! = d[t / 2]! := by rw [getElem!_def, getElem!_def, hg]
    rw [e2]

/-- A literal stored at place i of a row, a draw on. -/
theorem store_row {w wr : World} {n blk off : Nat} {dk : Array Lt} {i : Nat} (hi : i < dk.size) (hwr : wr = putRowK encL 2 (Sort.ahead w n) blk off dk) (x : Lt) :
    (wr.setCell ⟨blk, off + i * 2, none⟩ (.bool x.neg)).setCell ⟨blk, off + i * 2 + 1, none⟩ (.string x.name) = putRowK encL 2 (Sort.ahead w n) blk off (dk.setIfInBounds i x) := by
  subst hwr
  have h := setCells_putRow (Sort.ahead w n) blk off (encL x) (i * 2) (flatK encL 2 dk) (by rw [encL_len, size_flatK]; omega)
  rw [flat_set dk i x hi] at h
  exact h

theorem HoldsK.at0 {w : World} {blk off : Nat} {d : Array Lt} (h : HoldsK encL 2 w blk off d) {i : Nat} (hi : i < d.size) :
    (w.cell? ⟨blk, off + i * 2, none⟩ = some (.bool d[i]!.neg) ∧ w.frozen? ⟨blk, off + i * 2, none⟩ = false) ∧ w.cell? ⟨blk, off + i * 2 + 1, none⟩ = some (.string d[i]!.name) ∧ w.frozen? ⟨blk, off + i * 2 + 1, none⟩ = false :=
  ⟨HoldsK.cell h hi (show 0 < 2 by omega), HoldsK.cell h hi (show 1 < 2 by omega)⟩

/-- The zero value's cells, n times over. -/
theorem zero_cells (n : Nat) : (Builtin.zeroCells (Value.cells (.agg #[.bool false, .string ⟨#[]⟩])) n) = flatK encL 2 (Array.replicate n (default : Lt)) := by
  have hs : (Value.cells (.agg #[.bool false, .string ⟨#[]⟩])) = #[.bool false, .string ⟨#[]⟩] := rfl
  unfold Builtin.zeroCells flatK
  rw [hs]
  apply Array.ext
  · simp
  · intro i h1 h2
    have hi : i / 2 < n := by simp at h1; omega
    simp only [Array.getElem_map, Array.getElem_range, Array.size_replicate]
    have hd : (Array.replicate n (default : Lt))[i / 2]! = default := by rw [getElem!_pos _ _ (by simpa using hi)]; simp
    rw [hd]
    rcases Nat.mod_two_eq_zero_or_one i with h | h <;> (show (#[_, _] : Array Value)[i % 2]! = (encL default)[i % 2]!; rw [h]; rfl)

theorem zeroL (w : World) : (zeroValue 46).run Tryz.prog w = .ok (.agg #[.bool false, .string ⟨#[]⟩]) w := by kernel_rfl

/-- 'clear' of the rest of a row. -/
theorem clear_row (w : World) (ty : TypeId) (blk off n c : Nat) (hn : 0 < n) (d : Array Lt) (k : Nat) (hk : k + n = d.size) (hH : HoldsK encL 2 w blk off d) (w0 : World) (q : Nat) (hw : w = putRowK encL 2 (Sort.ahead w0 q) blk off d) :
    (Builtin.clear_ #[44] ty #[.slice (some ⟨blk, off + k * 2, none⟩) n c]).run Tryz.prog w = .ok (.tuple #[]) (putRowK encL 2 (Sort.ahead w0 q) blk off (Lib.lay d k (List.replicate n default))) := by
  have hz := zero_cells n
  have hst := run_storeCells_cells (P := Tryz.prog) blk (off + k * 2) (flatK encL 2 (Array.replicate n (default : Lt))).toList 0 w
    (fun j hj => by
      have hj' : j < n * 2 := by simpa using hj
      have h1 := hH (k * 2 + j) (by rw [size_flatK]; omega)
      rw [show off + k * 2 + 0 + j = off + (k * 2 + j) by omega, h1.1]; rfl)
    (fun j hj => by
      have hj' : j < n * 2 := by simpa using hj
      have h1 := hH (k * 2 + j) (by rw [size_flatK]; omega)
      rw [show off + k * 2 + 0 + j = off + (k * 2 + j) by omega, h1.2])
    (fun v hv => by
      rw [← hz] at hv
      simp only [Builtin.zeroCells, Array.toList_map, List.mem_map] at hv
      obtain ⟨i, _, rfl⟩ := hv
      rcases Nat.mod_two_eq_zero_or_one i with h | h <;> (show ((#[_, _] : Array Value)[i % 2]!).oneCell' = true; rw [h]; rfl))
  simp only [Nat.add_zero] at hst
  have hfin : w.setCells blk (off + k * 2) (flatK encL 2 (Array.replicate n (default : Lt))).toList = putRowK encL 2 (Sort.ahead w0 q) blk off (Lib.lay d k (List.replicate n default)) := by
    subst hw
    have h := setCells_putRow (Sort.ahead w0 q) blk off (flatK encL 2 (Array.replicate n (default : Lt))).toList (k * 2) (flatK encL 2 d) (by simp; omega)
    rw [flat_lay d _ k (by simp; omega), Array.toList_replicate] at h
    exact h
  rw [hfin] at hst
  obtain ⟨m, rfl⟩ : ∃ m, n = m + 1 := ⟨n - 1, by omega⟩
  simp [Builtin.clear_, run_underlying Tryz.underlying44, zeroL, hz, hst]
end Go.Proofs.YtfcoplplkbeljaaGreatDoor

namespace Go.Proofs.YtfcoplplkbeljaaGreatDoor
set_option linter.unusedVariables false
set_option linter.unusedSimpArgs false
open Go.RowKit Go.Sort Go.Lib

theorem litStruct : Tryz.prog.underlying 46 = some (.struct (Tryz.prog.fieldsOf 46)) := by kernel_rfl
theorem litStood : Tryz.prog.stoodInHeld 46 = false := by kernel_rfl
theorem litGuard : Tryz.prog.eqGuardType Tryz.prog.depth 46 = false := by kernel_rfl

theorem eqFieldsL (g g' : Bool) (s s' : ByteArray) (w : World) : (Op.equalIn 10000 46 (.agg #[.bool g, .string s]) (.agg #[.bool g', .string s'])).run Tryz.prog w = .ok (decide ((⟨g, s⟩ : Lt) = ⟨g', s'⟩)) w := by
  have u4 := Tryz.underlying4
  have u9 := Tryz.underlying9
  have e : (decide ((⟨g, s⟩ : Lt) = ⟨g', s'⟩)) = ((g == g') && (s.toList == s'.toList)) := by
    rw [names_same, Bool.eq_iff_iff]
    simp [Lt.mk.injEq]
  rw [show (10000 : Nat) = 9999 + 1 from rfl, run_equalIn_agg w 9999 46 _ _ litStruct litStood, e]
  simp only [Program.fieldsOf, Tryz.underlying46]
  go_simp
  by_cases h1 : g = g' <;> by_cases h2 : s.toList = s'.toList <;> simp [h1, h2]

theorem eqL (g g' : Bool) (s s' : ByteArray) (w : World) : (binOp .eql 46 (.agg #[.bool g, .string s]) (.agg #[.bool g', .string s'])).run Tryz.prog w = .ok (.bool (decide ((⟨g, s⟩ : Lt) = ⟨g', s'⟩))) w := by
  rw [run_eql_struct, eqFieldsL]
  rfl
theorem neL (g g' : Bool) (s s' : ByteArray) (w : World) : (binOp .neq 46 (.agg #[.bool g, .string s]) (.agg #[.bool g', .string s'])).run Tryz.prog w = .ok (.bool (!decide ((⟨g, s⟩ : Lt) = ⟨g', s'⟩))) w := by
  rw [run_neq_struct, eqFieldsL]
  rfl
theorem gdL (op : BinOp) (x y : Operand) (g g' : Bool) (s s' : ByteArray) (w : World) : (eqGuard op 46 x y (.agg #[.bool g, .string s]) (.agg #[.bool g', .string s'])).run Tryz.prog w = .ok () w := run_eqGuard_agg w op 46 x y _ _ litGuard

theorem store_drew {w wr : World} {n blk off : Nat} {dk : Array Lt} {i : Nat} (hi : i < dk.size) (hwr : wr = putRowK encL 2 (Sort.ahead w n) blk off dk) (x : Lt) :
    ((wr.setCell ⟨blk, off + i * 2, none⟩ (.bool x.neg)).setCell ⟨blk, off + i * 2 + 1, none⟩ (.string x.name)).drew = putRowK encL 2 (Sort.ahead w (n + 1)) blk off (dk.setIfInBounds i x) := by
  rw [store_row hi hwr x]
  rfl

/-- What the row holds behind Compact. -/
def cpt (d : Array Lt) : List Lt := compactUpTo d d.size
def cptRow (d : Array Lt) : Array Lt := (cpt d ++ List.replicate (d.size - (cpt d).length) default).toArray

set_option maxHeartbeats 4000000 in
set_option maxRecDepth 1000000 in
theorem compact_any (blk off cap : Nat) (d : Array Lt) (w : World) (hH : HoldsK encL 2 w blk off d) (hsz : d.size ≤ 9223372036854775807) (hcap : d.size ≤ cap) :
    Calls Tryz.prog 113 #[.slice (some ⟨blk, off, none⟩) d.size cap] w fun e w' => e = .returned (.slice (some ⟨blk, off, none⟩) (cpt d).length cap) ∧ ∃ q, w' = putRowK encL 2 (Sort.ahead w q) blk off (cptRow d) := by
  have same : ∀ q, (∀ j, j < d.size → keeps d j = true) → (cpt d).length = d.size ∧ w.drewN q = putRowK encL 2 (Sort.ahead w q) blk off (cptRow d) := by
    intro q hall
    have e : cpt d = d.toList := by rw [cpt, compactUpTo_all d _ hall, range_map_get]
    rw [cptRow, e]
    refine ⟨by simp, ?_⟩
    simp only [Array.length_toList, Nat.sub_self, List.replicate_zero, List.append_nil, Array.toArray_toList]
    exact (putRowK_self encL 2 (Sort.ahead w q) blk off d (holdsK_ahead encL 2 w q blk off d hH)).symm
  have HS := hidIt same
  clear same
  by_cases h2 : d.size < 2
  · have HH := hidIt hH
    clear hH
    go_enter Tryz.func113, Tryz.ntmps113
    go_wp2
    go_ret
    obtain ⟨e1, e2⟩ := HS.out 0 (fun j hj => keeps_lt_one d j (by omega))
    exact ⟨by rw [e1]; rfl, 0, e2⟩
  · go_enter Tryz.func113, Tryz.ntmps113
    go_wp2
    go_loopg [3] d.size (fun g s3 wr => ∃ k q : Nat, 1 ≤ k ∧ k ≤ d.size ∧ d.size - k ≤ g ∧ s3 = .int .i64 k ∧ wr = w.drewN q ∧ ∀ j, j < k → keeps d j = true)
    case atStart => exact ⟨1, 0, Nat.le_refl _, by omega, by omega, rfl, rfl, keeps_lt_one d⟩
    case round =>
      obtain ⟨k, q, hk1, hk, hg, rfl, rfl, hall⟩ := hrel
      by_cases hlt : k < d.size
      · obtain ⟨⟨c1, f1⟩, c1', f1'⟩ := HoldsK.at0 hH hlt
        obtain ⟨⟨c0, f0⟩, c0', f0'⟩ := HoldsK.at0 hH (show k - 1 < d.size by omega)
        have A := hidIt hall
        have HH := hidIt hH
        clear hall hH
        generalize hx : d[k]! = x at c1 c1'
        generalize hy : d[k - 1]! = y at c0 c0'
        have B := hidIt (And.intro hx hy)
        clear hx hy f0 f1 f0' f1'
        obtain ⟨gx, sx⟩ := x
        obtain ⟨gy, sy⟩ := y
        simp only at c0 c0' c1 c1'
        by_cases hdup : (⟨gx, sx⟩ : Lt) = ⟨gy, sy⟩
        · injection hdup with e1 e2
          subst e1 e2
          have hq : ∀ w, (Op.equalIn 10000 46 (.agg #[.bool gx, .string sx]) (.agg #[.bool gx, .string sx])).run Tryz.prog w = .ok true w := fun w => by rw [eqFieldsL]; simp
          have hgd := fun (op : BinOp) (a b : Operand) (w : World) => gdL op a b gx gx sx sx w
          have hwr : IntKind.i64.wrap ((k : Int) - 1) = ((k : Int) - 1) := IntWalk.i64_in _ (by omega)
          go_wp2_with fail
          go_region
          go_wp2
          clear c0 c1 c0' c1' hq hgd hwr
          go_loopg [3, 5] d.size (fun g s3 s5 wr => ∃ (kk k2 q2 : Nat) (dk : Array Lt), s3 = .int .i64 kk ∧ s5 = .int .i64 k2 ∧ 1 ≤ k2 ∧ k + k2 ≤ d.size ∧ d.size - (k + k2) ≤ g ∧ wr = putRowK encL 2 (Sort.ahead w q2) blk off dk ∧ CompInv d (k + k2) kk dk)
          case atStart => exact ⟨k, 1, q + 1, d, rfl, rfl, Nat.le_refl _, by omega, by omega, (putRowK_self encL 2 (Sort.ahead w (q + 1)) blk off d (holdsK_ahead encL 2 w (q + 1) blk off d HH.out)).symm, CompInv.start A.out (keeps_neg (by omega) (by rw [B.out.1, B.out.2]))⟩
          case round =>
            obtain ⟨kk, k2, q2, dk, rfl, rfl, h1, hle, hg2, hwr, hI⟩ := hrel
            have hkk := hI.lt
            have hds := hI.size
            have hHk : HoldsK encL 2 wr blk off dk := by rw [hwr]; exact holdsK_putRowK encL 2 _ blk off d dk (holdsK_ahead encL 2 w q2 blk off d HH.out) hds
            have W2 := hidIt hwr
            have I2 := hidIt hI
            clear hwr
            by_cases hlt2 : k + k2 < d.size
            · obtain ⟨⟨cm, _⟩, cm', _⟩ := HoldsK.at0 hHk (show k + k2 < dk.size by omega)
              obtain ⟨⟨cp, _⟩, cp', _⟩ := HoldsK.at0 hHk (show k + k2 - 1 < dk.size by omega)
              obtain ⟨⟨ck, fk⟩, ck', fk'⟩ := HoldsK.at0 hHk (show kk < dk.size by omega)
              rw [hI.high (k + k2) (by omega), show off + (k + k2) * 2 = off + k * 2 + k2 * 2 by omega] at cm cm'
              rw [hI.high (k + k2 - 1) (by omega), show off + (k + k2 - 1) * 2 = off + k * 2 + (k2 - 1) * 2 by omega] at cp cp'
              clear hHk hI
              generalize hu : d[k + k2]! = u at cm cm'
              generalize hv : d[k + k2 - 1]! = v at cp cp'
              generalize dk[kk]! = old at ck ck'
              have C := hidIt (And.intro hu hv)
              clear hu hv
              obtain ⟨gu, su⟩ := u
              obtain ⟨gv, sv⟩ := v
              simp only at cm cm' cp cp'
              have hwr : IntKind.i64.wrap ((k2 : Int) - 1) = ((k2 : Int) - 1) := IntWalk.i64_in _ (by omega)
              by_cases huv : (⟨gu, su⟩ : Lt) = ⟨gv, sv⟩
              · injection huv with e1 e2
                subst e1 e2
                have hq : ∀ w, (Op.equalIn 10000 46 (.agg #[.bool gu, .string su]) (.agg #[.bool gu, .string su])).run Tryz.prog w = .ok true w := fun w => by rw [eqFieldsL]; simp
                have hgd := fun (op : BinOp) (a b : Operand) (w : World) => gdL op a b gu gu su su w
                go_wp2_with fail
                go_region
                go_wp2
                go_roundg (d.size - (k + (k2 + 1)))
                case measure => omega
                case rel => exact ⟨kk, k2 + 1, q2 + 1, dk, rfl, by go_num, by omega, by omega, Nat.le_refl _, by rw [W2.out]; rfl, I2.out.skip (keeps_neg (by omega) (by rw [C.out.1, C.out.2]))⟩
              · have hq : ∀ w, (Op.equalIn 10000 46 (.agg #[.bool gu, .string su]) (.agg #[.bool gv, .string sv])).run Tryz.prog w = .ok false w := fun w => by rw [eqFieldsL]; simp only [huv, decide_false]
                have hgd := fun (op : BinOp) (a b : Operand) (w : World) => gdL op a b gu gv su sv w
                have HU := hidIt huv
                clear huv
                go_wp2_with fail
                go_region
                go_wp2
                go_roundg (d.size - (k + (k2 + 1)))
                case measure => omega
                case rel => exact ⟨kk + 1, k2 + 1, q2 + 1, dk.setIfInBounds kk ⟨gu, su⟩, by go_num, by go_num, by omega, by omega, Nat.le_refl _, store_drew (by omega) W2.out ⟨gu, su⟩, by have := I2.out.keep hlt2 (keeps_pos (by rw [C.out.1, C.out.2]; exact HU.out)); rwa [C.out.1] at this⟩
            · have hend : k + k2 = d.size := by omega
              have hcl : ∀ ty, (Builtin.clear_ #[44] ty #[.slice (some ⟨blk, off + kk * 2, none⟩) (d.size - kk) (cap - kk)]).run Tryz.prog wr = .ok (.tuple #[]) (putRowK encL 2 (Sort.ahead w q2) blk off (Lib.lay dk kk (List.replicate (d.size - kk) default))) :=
                fun ty => clear_row wr ty blk off (d.size - kk) (cap - kk) (by omega) dk kk (by omega) hHk w q2 W2.out
              clear hHk hI
              go_wp2
              go_ret
              have hI := I2.out
              rw [hend] at hI
              have hlen : (cpt d).length = kk := hI.len
              refine ⟨by rw [hlen]; rfl, q2, ?_⟩
              rw [cptRow, hlen, cpt, ← hI.done default]
        · have hq : ∀ w, (Op.equalIn 10000 46 (.agg #[.bool gx, .string sx]) (.agg #[.bool gy, .string sy])).run Tryz.prog w = .ok false w := fun w => by rw [eqFieldsL]; simp only [hdup, decide_false]
          have hgd := fun (op : BinOp) (a b : Operand) (w : World) => gdL op a b gx gy sx sy w
          have hwr : IntKind.i64.wrap ((k : Int) - 1) = ((k : Int) - 1) := IntWalk.i64_in _ (by omega)
          have HU := hidIt hdup
          clear hdup
          go_wp2_with fail
          go_region
          go_wp2
          go_roundg (d.size - (k + 1))
          case measure => omega
          case rel =>
            refine ⟨k + 1, q + 1, by omega, by omega, Nat.le_refl _, by go_num, rfl, fun j hj => ?_⟩
            by_cases e : j = k
            · subst e
              exact keeps_pos (by rw [B.out.1, B.out.2]; exact HU.out)
            · exact A.out j (by omega)
      · have : k = d.size := by omega
        subst this
        have HH := hidIt hH
        clear hH
        go_wp2
        go_ret
        obtain ⟨e1, e2⟩ := HS.out q hall
        exact ⟨by rw [e1]; rfl, q, e2⟩
end Go.Proofs.YtfcoplplkbeljaaGreatDoor

namespace Go.Proofs.YtfcoplplkbeljaaGreatDoor
set_option linter.unusedVariables false
set_option linter.unusedSimpArgs false
open Go.RowKit Go.Sort

/-- The value is a list of literals that reads as xs. -/
def LitsAt (w : World) (v : Value) (xs : List Lt) : Prop :=
  (v = .slice none 0 0 ∧ xs = []) ∨
  ∃ (b off cap : Nat), v = .slice (some ⟨b, off, none⟩) xs.length cap ∧ xs.length ≤ cap ∧ cap ≤ maxLen ∧ b < w.heap.size ∧
    ∀ i, i < xs.length → w.cell? ⟨b, off + i * 2, none⟩ = some (.bool (xs[i]!).neg) ∧ w.cell? ⟨b, off + i * 2 + 1, none⟩ = some (.string (xs[i]!).name)

/-- .. and lies in a block that may be written whole, from block B on. -/
def OwnLits (w : World) (B : Nat) (v : Value) (xs : List Lt) : Prop :=
  (v = .slice none 0 0 ∧ xs = []) ∨
  ∃ (b cap : Nat), v = .slice (some ⟨b, 0, none⟩) xs.length cap ∧ xs.length ≤ cap ∧ cap ≤ maxLen ∧ B ≤ b ∧ b < w.heap.size ∧ HoldsK encL 2 w b 0 xs.toArray

theorem OwnLits.lits {w : World} {B : Nat} {v : Value} {xs : List Lt} (h : OwnLits w B v xs) : LitsAt w v xs := by
  rcases h with h | ⟨b, cap, h1, h2, h3, h4, h5, h6⟩
  · exact .inl h
  · refine .inr ⟨b, 0, cap, h1, h2, h3, h5, fun i hi => ?_⟩
    have := HoldsK.at0 h6 (show i < xs.toArray.size by simpa using hi)
    simp only [List.getElem!_toArray] at this
    exact ⟨this.1.1, this.2.1⟩

theorem LitsAt.kept {w w' : World} {v : Value} {xs : List Lt} (h : LitsAt w v xs) {row : Option Nat} (hg : w.grownBy w' row) (hr : ∀ g, row = some g → ∀ b off cap, v = .slice (some ⟨b, off, none⟩) xs.length cap → b ≠ g) : LitsAt w' v xs := by
  rcases h with h | ⟨b, off, cap, h1, h2, h3, h4, h5⟩
  · exact .inl h
  · have hb : w'.heap[b]? = w.heap[b]? := hg.block b h4 (fun e => hr b e.symm b off cap h1 rfl)
    refine .inr ⟨b, off, cap, h1, h2, h3, Nat.lt_of_lt_of_le h4 hg.size, fun i hi => ?_⟩
    rw [World.cell?_of_block (w := w) (w' := w') (a := ⟨b, off + i * 2, none⟩) hb, World.cell?_of_block (w := w) (w' := w') (a := ⟨b, off + i * 2 + 1, none⟩) hb]
    exact h5 i hi
theorem LitsAt.grow {w w' : World} {v : Value} {xs : List Lt} (h : LitsAt w v xs) (hg : w.grownBy w' none) : LitsAt w' v xs := h.kept hg (fun g e => by cases e)
theorem LitsAt.below {w w' : World} {v : Value} {xs : List Lt} (h : LitsAt w v xs) (hb : Below w.heap.size w w') : LitsAt w' v xs := h.grow (only_of_below hb none)

theorem holds_block {w w' : World} {b : Nat} {d : Array Lt} (h : HoldsK encL 2 w b 0 d) (hb : w'.heap[b]? = w.heap[b]?) : HoldsK encL 2 w' b 0 d := fun j hj => by
  rw [World.cell?_of_block (w := w) (w' := w') (a := ⟨b, 0 + j, none⟩) hb, World.frozen?_of_block (w := w) (w' := w') (a := ⟨b, 0 + j, none⟩) hb]
  exact h j hj
theorem OwnLits.kept {w w' : World} {B : Nat} {v : Value} {xs : List Lt} (h : OwnLits w B v xs) {row : Option Nat} (hg : w.grownBy w' row) (hr : ∀ g, row = some g → ∀ b cap, v = .slice (some ⟨b, 0, none⟩) xs.length cap → b ≠ g) : OwnLits w' B v xs := by
  rcases h with h | ⟨b, cap, h1, h2, h3, h4, h5, h6⟩
  · exact .inl h
  · have hb : w'.heap[b]? = w.heap[b]? := hg.block b h5 (fun e => hr b e.symm b cap h1 rfl)
    exact .inr ⟨b, cap, h1, h2, h3, h4, Nat.lt_of_lt_of_le h5 hg.size, holds_block h6 hb⟩
theorem OwnLits.below {w w' : World} {B : Nat} {v : Value} {xs : List Lt} (h : OwnLits w B v xs) (hb : Below w.heap.size w w') : OwnLits w' B v xs := h.kept (only_of_below hb none) (fun g e => by cases e)
theorem OwnLits.mono {w : World} {B B' : Nat} {v : Value} {xs : List Lt} (h : OwnLits w B v xs) (hB : B' ≤ B) : OwnLits w B' v xs := by
  rcases h with h | ⟨b, cap, h1, h2, h3, h4, h5, h6⟩
  · exact .inl h
  · exact .inr ⟨b, cap, h1, h2, h3, Nat.le_trans hB h4, h5, h6⟩

/-- The flat cells of a list. -/
def flatL (xs : List Lt) : List Value := (flatK encL 2 xs.toArray).toList
theorem flatL_len (xs : List Lt) : (flatL xs).length = xs.length * 2 := by simp [flatL]
theorem flatL_get (xs : List Lt) (j : Nat) (h : j < xs.length * 2) : (flatL xs)[j]? = some ((encL xs[j / 2]!)[j % 2]!) := by
  have := get_flatK encL 2 xs.toArray j (by simpa using h)
  simp only [List.getElem!_toArray] at this
  rw [flatL, Array.getElem?_toList, ← this]
  rw [getElem!_pos _ _ (by simpa using h), Array.getElem?_eq_getElem]

theorem LitsAt.cells {w : World} {b off : Nat} {xs : List Lt} (h : ∀ i, i < xs.length → w.cell? ⟨b, off + i * 2, none⟩ = some (.bool (xs[i]!).neg) ∧ w.cell? ⟨b, off + i * 2 + 1, none⟩ = some (.string (xs[i]!).name)) :
    ∀ j u, (flatL xs)[j]? = some u → w.cell? ⟨b, off + j, none⟩ = some u := by
  intro j u hu
  have hj : j < xs.length * 2 := by
    have := (List.getElem?_eq_some_iff.1 hu).1
    rwa [flatL_len] at this
  rw [flatL_get xs j hj] at hu
  have hi := h (j / 2) (by omega)
  rcases Nat.mod_two_eq_zero_or_one j with e | e
  · rw [e, encL_get0] at hu
    rw [show off + j = off + j / 2 * 2 by omega, hi.1]
    exact hu
  · rw [e, encL_get1] at hu
    rw [show off + j = off + j / 2 * 2 + 1 by omega, hi.2]
    exact hu

theorem flatL_one (xs : List Lt) : ∀ u ∈ flatL xs, u.oneCell' = true := by
  intro u hu
  obtain ⟨j, hj, rfl⟩ := List.getElem_of_mem hu
  have hj' : j < xs.length * 2 := by rwa [flatL_len] at hj
  have := flatL_get xs j hj'
  rw [List.getElem?_eq_getElem hj] at this
  injection this with this
  rw [this]
  rcases Nat.mod_two_eq_zero_or_one j with e | e <;> rw [e] <;> rfl

/-- A row that the call owns holds its list. -/
theorem holds_of_owns {w : World} {base : Nat} {v : Value} {xs : List Lt} (h : w.ownsRow base 46 2 v xs.length (flatL xs)) (hn : v ≠ .slice none 0 0) : OwnLits w base v xs := by
  obtain ⟨_, h | ⟨g, cap, cur, h1, h2, h3, h4, h5, h6, h7⟩⟩ := h
  · exact absurd h.1 hn
  · refine .inr ⟨g, cap, h1, h4, h5, h2, lt_of_block h3, fun j hj => ?_⟩
    have hj' : j < xs.length * 2 := by simpa using hj
    have hc : (flatL xs)[j]? = some (flatK encL 2 xs.toArray)[j]! := by
      rw [flatL, Array.getElem?_toList, Array.getElem?_eq_getElem (by simpa using hj'), getElem!_pos _ _ (by simpa using hj')]
    have hcur : cur[j]? = some (flatK encL 2 xs.toArray)[j]! := by
      rw [← hc, ← h7, List.getElem?_take, if_pos hj', Array.getElem?_toList]
    refine ⟨?_, ?_⟩
    · simp [World.cell?, h3, hcur]
    · simp [World.frozen?, h3]
end Go.Proofs.YtfcoplplkbeljaaGreatDoor

namespace Go.Proofs.YtfcoplplkbeljaaGreatDoor
set_option linter.unusedVariables false
set_option linter.unusedSimpArgs false
open Go.RowKit Go.Sort

theorem cmpLays (blk off size : Nat) (w : World) : CmpLays Tryz.prog 112 #[] encL 2 cmpI blk off size w :=
  fun _ _ _ _ x y => (compare_any x y _).mono fun _ _ ⟨he, os, hw⟩ => ⟨he, 0, os, hw⟩

theorem aggL (w : World) : (isAgg 46).run Tryz.prog w = .ok true w := Tryz.isAgg46 w
theorem sizeL (w : World) : (Go.sizeOf 46).run Tryz.prog w = .ok 2 w := Tryz.sizeOf46 w

/-- The list sorted. -/
def srt (xs : List Lt) : List Lt := xs.mergeSort fun x y => !(ltOf cmpI) y x

/-- slices.SortFunc at a row of literals. -/
theorem sort_any (blk off cap : Nat) (xs : List Lt) (w : World) (hH : HoldsK encL 2 w blk off xs.toArray) (hblk : blk < w.heap.size) (hsz : xs.length < 4611686018427387904) :
    Calls Tryz.prog 111 #[.slice (some ⟨blk, off, none⟩) xs.length cap, .func (.func 112) #[] #[]] w fun e w' => e = .returned (.tuple #[]) ∧ ∃ n os, w' = sortWorldK encL 2 w blk off n (srt xs).toArray os := by
  have eg : ∀ args w, (callFunc 112 args).run Tryz.prog w = .ok (.enter 112 args) w := enters_of Tryz.func112 (by kernel_rfl) rfl
  have h := AnyQ.slices_SortFunc_total Tryz.sortL 2 aggL sizeL encL encL_len encL_one cmpI swo 112 #[] blk off cap xs.toArray w eg (cmpLays blk off _ w) hH hblk (by simpa using hsz) lt_total
  have e : xs.toArray.size = xs.length := by simp
  rw [e] at h
  exact h

theorem sort_nil (w : World) : Calls Tryz.prog 111 #[.slice none 0 0, .func (.func 112) #[] #[]] w fun e w' => e = .returned (.tuple #[]) ∧ w' = w :=
  AnyF.slices_SortFunc_none Tryz.sortL none 0 _ w

theorem infoL : (Tryz.prog.info? 46).map (fun i => (i.zero, i.size, i.bytes)) = some (some (.agg #[.bool false, .string ⟨#[]⟩]), 2, 24) := by kernel_rfl

/-- slices.Clone at a list of literals. -/
theorem clone_some (b off cap : Nat) (xs : List Lt) (w : World) (hn : xs.length ≤ 1000000)
    (h : ∀ i, i < xs.length → w.cell? ⟨b, off + i * 2, none⟩ = some (.bool (xs[i]!).neg) ∧ w.cell? ⟨b, off + i * 2 + 1, none⟩ = some (.string (xs[i]!).name)) :
    Calls Tryz.prog 110 #[.slice (some ⟨b, off, none⟩) xs.length cap] w fun e w' => ∃ v', e = .returned v' ∧ OwnLits w' w.heap.size v' xs ∧ v' ≠ .slice none 0 0 ∧ Below w.heap.size w w' := by
  obtain ⟨i0, hi, hz0, hz1, hz2⟩ := info_parts infoL
  have hc := AnyE.slices_Clone Tryz.cloneL i0 _ 2 24 hi hz0 hz1 hz2 rfl (by omega) sizeL b off xs.length cap (flatL xs) w (flatL_len xs) (by unfold maxLen; omega) (by omega) (LitsAt.cells h) (flatL_one xs)
  exact hc.mono fun e w' ⟨v', he, ho, hn, hb⟩ => ⟨v', he, holds_of_owns ho hn, hn, hb⟩

theorem clone_nil (w : World) : Calls Tryz.prog 110 #[.slice none 0 0] w fun e w' => e = .returned (.slice none 0 0) ∧ w = w' := by
  have q22 : ∀ (w : World) (a : Option Addr) (n c n' c' : Nat), (binOp .eql 44 (.slice a n c) (.slice none n' c')).run Tryz.prog w = .ok (.bool a.isNone) w := fun w a n c n' c' => Lib.run_eql_slice_nil w _ _ a n c n' c' Tryz.underlying44
  go_enter Tryz.func110, Tryz.ntmps110
  go_wp2
  go_ret
  exact ⟨rfl, rfl⟩

theorem compact_nil (w : World) : Calls Tryz.prog 113 #[.slice none 0 0] w fun e w' => e = .returned (.slice none 0 0) ∧ w = w' := by
  go_enter Tryz.func113, Tryz.ntmps113
  go_wp2
  go_ret
  exact ⟨rfl, rfl⟩

/-- The list in ascending order, each once. -/
def nrm (xs : List Lt) : List Lt := cpt (srt xs).toArray

theorem srt_pair (xs : List Lt) : (srt xs).Pairwise fun a b => (!ltOf cmpI b a) = true :=
  List.pairwise_mergeSort (fun a b c h k => by
    simp only [Bool.not_eq_true'] at *
    exact swo.ntrans c b a k h) (fun a b => by
    cases h : ltOf cmpI b a
    · simp
    · have : ltOf cmpI a b = false := by
        cases k : ltOf cmpI a b
        · rfl
        · have := swo.trans a b a k h
          rw [swo.irrefl] at this
          cases this
      simp [this]) xs

theorem srt_eq {l xs : List Lt} (h : l.Perm xs) (hs : l.Pairwise fun a b => (!ltOf cmpI b a) = true) : srt xs = l :=
  List.Perm.eq_of_pairwise (le := fun a b => (!ltOf cmpI b a) = true) (fun a b _ _ h1 h2 => by
    simp only [Bool.not_eq_true'] at h1 h2
    exact lt_total a b h2 h1) (srt_pair xs) hs ((List.mergeSort_perm _ _).trans h.symm)

theorem srt_len (xs : List Lt) : (srt xs).length = xs.length := (List.mergeSort_perm _ _).length_eq

theorem below_put {a w : World} {B b off : Nat} {d : Array Lt} (h : Below B a w) (hb : B ≤ b) : Below B a (putRowK encL 2 w b off d) :=
  h.trans ⟨rfl, rfl, rfl, by simp [putRowK], fun k hk => by
    show (w.heap.modify b _)[k]? = _
    rw [Array.getElem?_modify, if_neg (by omega)]⟩
theorem below_grown {a w : World} {B : Nat} (h : Below B a w) (hB : B ≤ w.heap.size) (os : Array Obj) : Below B a (Sort.grow w os) := h.trans ((below_grow w os).mono hB)
theorem below_ahead {a w : World} {B : Nat} (h : Below B a w) (n : Nat) : Below B a (Sort.ahead w n) := ⟨h.os, h.tape, h.output, h.size, h.block⟩

theorem clone_clean (b off cap : Nat) (xs : List Lt) (w : World) (hn : xs.length ≤ 1000000)
    (h : ∀ i, i < xs.length → w.cell? ⟨b, off + i * 2, none⟩ = some (.bool (xs[i]!).neg) ∧ w.cell? ⟨b, off + i * 2 + 1, none⟩ = some (.string (xs[i]!).name)) :
    Calls Tryz.prog 110 #[.slice (some ⟨b, off, none⟩) xs.length cap] w fun e w' => ∃ g cap' : Nat, e = .returned (.slice (some ⟨g, 0, none⟩) xs.length cap') ∧ xs.length ≤ cap' ∧ cap' ≤ maxLen ∧ w.heap.size ≤ g ∧ g < w'.heap.size ∧ HoldsK encL 2 w' g 0 xs.toArray ∧ Below w.heap.size w w' :=
  (clone_some b off cap xs w hn h).mono fun e w' ⟨v', he, ho, hnn, hb⟩ => by
    rcases ho with h0 | ⟨g, cap', h1, h2, h3, h4, h5, h6⟩
    · exact absurd h0.1 hnn
    · exact ⟨g, cap', by rw [he, h1], h2, h3, h4, h5, h6, hb⟩

theorem sort_clean (B blk off cap : Nat) (xs : List Lt) (w : World) (hH : HoldsK encL 2 w blk off xs.toArray) (hB : B ≤ blk) (hblk : blk < w.heap.size) (hsz : xs.length < 4611686018427387904) :
    Calls Tryz.prog 111 #[.slice (some ⟨blk, off, none⟩) xs.length cap, .func (.func 112) #[] #[]] w fun e w' => e = .returned (.tuple #[]) ∧ HoldsK encL 2 w' blk off (srt xs).toArray ∧ Below B w w' ∧ blk < w'.heap.size :=
  (sort_any blk off cap xs w hH hblk hsz).mono fun e w' ⟨he, n, os, hw⟩ => by
    subst hw
    have hs : (srt xs).toArray.size = xs.toArray.size := by simp [srt_len]
    have hp := holdsK_putRowK encL 2 (Sort.ahead w n) blk off xs.toArray (srt xs).toArray (holdsK_ahead encL 2 w n blk off _ hH) hs
    have hlt : blk < (putRowK encL 2 (Sort.ahead w n) blk off (srt xs).toArray).heap.size := by simpa [putRowK] using hblk
    have hb : Below B w (putRowK encL 2 (Sort.ahead w n) blk off (srt xs).toArray) := below_put (below_ahead (Below.refl B w) n) hB
    refine ⟨he, holdsK_grow encL 2 _ os blk off _ hlt hp, below_grown hb (by omega) os, ?_⟩
    have := (below_grow (putRowK encL 2 (Sort.ahead w n) blk off (srt xs).toArray) os).size
    exact Nat.lt_of_lt_of_le hlt this

theorem cptRow_size (d : Array Lt) : (cpt d).length ≤ d.size ∧ (cptRow d).size = d.size := by
  have h : (cpt d).length ≤ d.size := by
    unfold cpt Lib.compactUpTo
    rw [List.length_map]
    have := List.length_filter_le (Lib.keeps d) (List.range d.size)
    rwa [List.length_range] at this
  refine ⟨h, ?_⟩
  rw [cptRow]
  simp
  omega

/-- A shorter row that is a beginning of a row that lies. -/
theorem holds_prefix {w : World} {b off : Nat} {d d' : Array Lt} (h : HoldsK encL 2 w b off d) (hs : d'.size ≤ d.size) (hg : ∀ i, i < d'.size → d'[i]! = d[i]!) : HoldsK encL 2 w b off d' := fun j hj => by
  have hj' : j < d'.size * 2 := by simpa using hj
  have h1 := h j (by rw [size_flatK]; omega)
  rw [get_flatK _ _ _ _ (by omega)] at h1
  rw [get_flatK _ _ _ _ hj', hg (j / 2) (by omega)]
  exact h1

theorem compact_clean (B blk off cap : Nat) (d : Array Lt) (w : World) (hH : HoldsK encL 2 w blk off d) (hsz : d.size ≤ 9223372036854775807) (hcap : d.size ≤ cap) (hB : B ≤ blk) (hblk : blk < w.heap.size) :
    Calls Tryz.prog 113 #[.slice (some ⟨blk, off, none⟩) d.size cap] w fun e w' => e = .returned (.slice (some ⟨blk, off, none⟩) (cpt d).length cap) ∧ HoldsK encL 2 w' blk off (cpt d).toArray ∧ Below B w w' ∧ blk < w'.heap.size :=
  (compact_any blk off cap d w hH hsz hcap).mono fun e w' ⟨he, q, hw⟩ => by
    subst hw
    have hc := cptRow_size d
    have hp := holdsK_putRowK encL 2 (Sort.ahead w q) blk off d (cptRow d) (holdsK_ahead encL 2 w q blk off _ hH) hc.2
    have hb : Below B w (putRowK encL 2 (Sort.ahead w q) blk off (cptRow d)) := below_put (below_ahead (Below.refl B w) q) hB
    refine ⟨he, holds_prefix hp (by simp [hc.2, hc.1]) (fun i hi => ?_), hb, by simpa [putRowK] using hblk⟩
    have hi' : i < (cpt d).length := by simpa using hi
    rw [cptRow, List.getElem!_toArray, List.getElem!_toArray]
    rw [getElem!_pos (cpt d) i hi', getElem!_pos (cpt d ++ List.replicate (d.size - (cpt d).length) default) i (by simp; omega), List.getElem_append_left hi']

theorem normal_nil (w : World) : Calls Tryz.prog 59 #[.slice none 0 0] w fun e w' => e = .returned (.slice none 0 0) ∧ w = w' := by
  go_enter Tryz.func59, Tryz.ntmps59
  go_wp2_with (first | (go_at_call 110; refine (clone_nil _).mono ?_; rintro e w' ⟨rfl, rfl⟩) | (go_at_call 111; refine (sort_nil _).mono ?_; rintro e w' ⟨rfl, rfl⟩) | (go_at_call 113; refine (compact_nil _).mono ?_; rintro e w' ⟨rfl, rfl⟩))
  go_ret
  exact ⟨rfl, rfl⟩

set_option maxHeartbeats 400000 in
theorem normal_some (b off cap : Nat) (xs : List Lt) (w : World) (hn : xs.length ≤ 1000000)
    (h : ∀ i, i < xs.length → w.cell? ⟨b, off + i * 2, none⟩ = some (.bool (xs[i]!).neg) ∧ w.cell? ⟨b, off + i * 2 + 1, none⟩ = some (.string (xs[i]!).name)) :
    Calls Tryz.prog 59 #[.slice (some ⟨b, off, none⟩) xs.length cap] w fun e w' => ∃ v', e = .returned v' ∧ OwnLits w' w.heap.size v' (nrm xs) ∧ Below w.heap.size w w' := by
  have hc := clone_clean b off cap xs w hn h
  have hsl := srt_len xs
  have HSL := hidIt hsl
  clear h hsl
  go_enter Tryz.func59, Tryz.ntmps59
  go_wp2_with fail
  refine hc.mono ?_
  rintro e w1 ⟨g, cap', rfl, k1, k2, k3, k4, k5, k6⟩
  have K5 := hidIt k5; have K6 := hidIt k6; clear k5 k6
  go_wp2_with fail
  refine (sort_clean w.heap.size g 0 cap' xs _ K5.out k3 k4 (by omega)).mono ?_
  rintro e w2 ⟨rfl, s1, s2, s3⟩
  have S1 := hidIt s1; have S2 := hidIt s2; clear s1 s2
  go_wp2_with fail
  have hcp := compact_clean w.heap.size g 0 cap' (srt xs).toArray w2 S1.out (by have := HSL.out; simp; omega) (by have := HSL.out; simp; omega) k3 s3
  have e1 : (srt xs).toArray.size = xs.length := by rw [List.size_toArray]; exact HSL.out
  rw [e1] at hcp
  refine hcp.mono ?_
  rintro e w3 ⟨rfl, p1, p2, p3⟩
  have P1 := hidIt p1; have P2 := hidIt p2; clear p1 p2 hcp e1
  go_wp2
  go_ret
  refine ⟨_, rfl, .inr ⟨g, cap', rfl, ?_, k2, k3, p3, P1.out⟩, (K6.out.trans S2.out).trans P2.out⟩
  have := (cptRow_size (srt xs).toArray).1
  rw [List.size_toArray, HSL.out] at this
  exact Nat.le_trans this k1

/-- literal.Normal, for every list. -/
theorem normal_any (v : Value) (xs : List Lt) (w : World) (h : LitsAt w v xs) (hn : xs.length ≤ 1000000) :
    Calls Tryz.prog 59 #[v] w fun e w' => ∃ v', e = .returned v' ∧ OwnLits w' w.heap.size v' (nrm xs) ∧ Below w.heap.size w w' := by
  rcases h with ⟨rfl, rfl⟩ | ⟨b, off, cap, rfl, h2, h3, h4, h5⟩
  · refine (normal_nil w).mono ?_
    rintro e w' ⟨rfl, rfl⟩
    exact ⟨_, rfl, .inl ⟨rfl, by simp [nrm, srt, cpt, Lib.compactUpTo]⟩, Below.refl _ _⟩
  · exact normal_some b off cap xs w hn h5
end Go.Proofs.YtfcoplplkbeljaaGreatDoor
