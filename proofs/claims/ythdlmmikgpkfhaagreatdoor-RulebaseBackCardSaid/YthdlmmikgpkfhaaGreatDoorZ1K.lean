/- copy at a row whose elements have several cells; where the cells of a list stand. Literals in ascending order, each once (package keep): the plain part. A rule base under construction beside a reader of numbers: what calls and appends leave of it. -/
import Derived.Test.YthdlmmikgpkfhaaGreatDoorZ1K5a
import Derived.Laws.CopyRow
import Derived.Laws.CopyOwn
import Derived.Test.YthdlmmikgpkfhaaGreatDoorZ1B5ai
import Derived.Test.YthdlmmikgpkfhaaGreatDoorZ1B5aa
import Derived.Test.YthdlmmikgpkfhaaGreatDoorZ1B5ab

namespace Go.Proofs.YthdlmmikgpkfhaaGreatDoor
set_option linter.unusedVariables false
set_option linter.unusedSimpArgs false
open Go Go.RowKit

theorem run_copy_k {P : Program} (w : World) (dT sT ty elem : TypeId) (k g o dLen dCap : Nat) (a : Addr) (sLen sCap n : Nat) (cur : Array Value) (t : TypeId) (cs : List Value)
    (hu : P.underlying dT = some (.slice elem)) (hs : (P.info? elem).map (·.size) = some k)
    (hg : w.heap[g]? = some (.cells cur t (0, 0))) (hn : Nat.min sLen dLen = n) (hcs : cs.length = n * k)
    (hsrc : ∀ j v, cs[j]? = some v → w.cell? (a.add j) = some v) (hfit : o + cs.length ≤ cur.size) (h1 : ∀ v ∈ cs, v.oneCell' = true) :
    (Builtin.copy_ #[dT, sT] ty #[.slice (some ⟨g, o, none⟩) dLen dCap, .slice (some a) sLen sCap]).run P w =
      .ok (goInt n) (w.setRow g (cur.toList.take o ++ cs ++ cur.toList.drop (o + cs.length)).toArray) := by
  have hl := run_loadCells_list (P := P) w a cs hsrc
  have hst := run_storeCells_at P g o t cs 0 cur w hg (by simpa using hfit) h1
  cases hq : P.info? elem with
  | none => simp [hq] at hs
  | some i =>
    have hi : i.size = k := by simpa [hq] using hs
    simp [Builtin.copy_, run_underlying hu, Builtin.lenOf, Builtin.firstCells, sizeOf, typeInfo, hq, hi, hn, ← hcs, hl, hst]


/-- Where the elements of an owned row stand. -/
theorem owns_row {w : World} {B : Nat} {e : TypeId} {k : Nat} {g n cap : Nat} {xs : List Value} (h : w.ownsRow B e k (.slice (some ⟨g, 0, none⟩) n cap) n xs) :
    ∃ cur : Array Value, B ≤ g ∧ w.heap[g]? = some (.cells cur e (0, 0)) ∧ n ≤ cap ∧ cap ≤ maxLen ∧ cur.size = cap * k ∧ cur.toList.take (n * k) = xs := by
  rcases h.2 with ⟨h0, h1⟩ | ⟨g', cap', cur, hv, hB, hg, h1, h2, h3, h4⟩
  · cases h0
  · injection hv with hv _ hv2
    injection hv with hv
    injection hv with hv
    subst hv hv2
    exact ⟨cur, hB, hg, h1, h2, h3, h4⟩

/-- A row of n + 1 elements, the last whatever: what stands from k on goes one place up. -/
theorem copy_up {P : Program} (w : World) (T ty e : TypeId) (B : Nat) (hu : P.underlying T = some (.slice e)) (hs : (P.info? e).map (·.size) = some 2) (g n k cap : Nat) (hk : k ≤ n) (xs zz : List Value) (hx : xs.length = n * 2) (hzz : zz.length = 2)
    (h : w.ownsRow B e 2 (.slice (some ⟨g, 0, none⟩) (n + 1) cap) (n + 1) (xs ++ zz)) (h1 : ∀ u ∈ xs, u.oneCell' = true) :
    ∃ w', (Builtin.copy_ #[T, T] ty #[.slice (some ⟨g, (k + 1) * 2, none⟩) (n + 1 - (k + 1)) (cap - (k + 1)), .slice (some ⟨g, k * 2, none⟩) (n + 1 - k) (cap - k)]).run P w = .ok (goInt ((n - k : Nat) : Int)) w' ∧
      ∃ y : List Value, y.length = 2 ∧ w'.ownsRow B e 2 (.slice (some ⟨g, 0, none⟩) (n + 1) cap) (n + 1) (xs.take (k * 2) ++ (y ++ xs.drop (k * 2))) ∧ w.grownBy w' (some g) := by
  obtain ⟨cur, hB, hg, hc1, hc2, hc3, hc4⟩ := owns_row h
  have hcl : cur.toList.length = cap * 2 := by rw [Array.length_toList, hc3]
  have hgt : ∀ j, j < (n + 1) * 2 → cur.toList[j]? = (xs ++ zz)[j]? := fun j hj => by
    rw [← hc4, List.getElem?_take, if_pos hj]
  have hd : (xs.drop (k * 2)).length = (n - k) * 2 := by rw [List.length_drop, hx, Nat.sub_mul]
  have hkn : k * 2 ≤ n * 2 := Nat.mul_le_mul_right 2 hk
  have hr := run_copy_k (P := P) w T T ty e 2 g ((k + 1) * 2) (n + 1 - (k + 1)) (cap - (k + 1)) ⟨g, k * 2, none⟩ (n + 1 - k) (cap - k) (n - k) cur e (xs.drop (k * 2)) hu hs hg (by show min _ _ = _; omega) hd (fun j v hj => by
    have hjl : j < (n - k) * 2 := by rw [← hd]; exact (List.getElem?_eq_some_iff.1 hj).1
    have e1 : (⟨g, k * 2, none⟩ : Addr).add j = ⟨g, k * 2 + j, none⟩ := by unfold Addr.add; split <;> simp_all
    rw [e1]
    rw [List.getElem?_drop] at hj
    have h2 := hgt (k * 2 + j) (by omega)
    rw [List.getElem?_append_left (by omega), hj] at h2
    simp only [World.cell?, hg]
    simpa using h2) (by rw [hd, hc3]; have := Nat.mul_le_mul_right 2 hc1; omega) (fun v hv => h1 v (List.mem_of_mem_drop hv))
  refine ⟨_, hr, (cur.toList.drop (k * 2)).take 2, by rw [List.length_take, List.length_drop, hcl]; have := Nat.mul_le_mul_right 2 hc1; omega, ⟨by simp [hx]; have := Nat.mul_le_mul_right 2 hc1; omega, .inr ⟨g, cap, _, rfl, hB, setRow_heap w g cur _ e _ hg, hc1, hc2, ?_, ?_⟩⟩, ?_⟩
  · have := Nat.mul_le_mul_right 2 hc1
    simp [hd]
    omega
  · have hcc := Nat.mul_le_mul_right 2 hc1
    apply List.ext_getElem?
    intro j
    rw [List.getElem?_take]
    by_cases hj : j < (n + 1) * 2
    · rw [if_pos hj]
      simp only [List.append_assoc]
      by_cases hj1 : j < k * 2
      · rw [List.getElem?_append_left (by simp; omega), List.getElem?_append_left (by simp; omega), List.getElem?_take, List.getElem?_take, if_pos (by omega), if_pos hj1, hgt j (by omega), List.getElem?_append_left (by omega)]
      · by_cases hj2 : j < (k + 1) * 2
        · rw [List.getElem?_append_left (by simp; omega), List.getElem?_append_right (by simp; omega), List.getElem?_append_left (by simp; omega), List.getElem?_take, if_pos hj2, List.getElem?_take, List.getElem?_drop]
          have e1 : (List.take (k * 2) xs).length = k * 2 := by rw [List.length_take]; omega
          rw [e1, if_pos (by omega)]
          congr 1
          omega
        · have e1 : (List.take (k * 2) xs).length = k * 2 := by rw [List.length_take]; omega
          have e2 : (List.take ((k + 1) * 2) cur.toList).length = (k + 1) * 2 := by rw [List.length_take]; omega
          have e3 : (List.take 2 (List.drop (k * 2) cur.toList)).length = 2 := by rw [List.length_take, List.length_drop]; omega
          rw [List.getElem?_append_right (by omega), List.getElem?_append_left (by rw [hd, e2]; omega), List.getElem?_append_right (by omega), List.getElem?_append_right (by omega), e1, e2, e3]
          congr 1
          omega
    · rw [if_neg hj]
      symm
      apply List.getElem?_eq_none
      have e1 : (List.take (k * 2) xs).length = k * 2 := by rw [List.length_take]; omega
      have e3 : (List.take 2 (List.drop (k * 2) cur.toList)).length = 2 := by rw [List.length_take, List.length_drop]; omega
      rw [List.length_append, List.length_append, e1, e3, hd]
      omega
  · exact ⟨rfl, rfl, rfl, by simp [World.setRow], fun i hi hne => setRow_other w g i _ (fun e => hne (by rw [e]))⟩
theorem run_copy_none {P : Program} (w : World) (T ty e : TypeId) (hu : P.underlying T = some (.slice e)) (hs : (P.info? e).map (·.size) = some 2) (g sLen sCap dCap : Nat) (a : Addr) (cur : Array Value) (t : TypeId) (hg : w.heap[g]? = some (.cells cur t (0, 0))) :
    (Builtin.copy_ #[T, T] ty #[.slice (some ⟨g, 0, none⟩) 0 dCap, .slice (some a) sLen sCap]).run P w = .ok (goInt ((0 : Nat) : Int)) (w.setRow g (cur.toList.take 0 ++ [] ++ cur.toList.drop (0 + ([] : List Value).length)).toArray) :=
  run_copy_k (P := P) w T T ty e 2 g 0 0 dCap a sLen sCap 0 cur t [] hu hs hg (by show min _ _ = _; omega) rfl (fun j v hj => by simp at hj) (by simp) (fun v hv => by simp at hv)

/-- The same, where the place behind the last may be the end of the room. -/
theorem copy_up2 {P : Program} (w : World) (T ty e : TypeId) (B : Nat) (hu : P.underlying T = some (.slice e)) (hs : (P.info? e).map (·.size) = some 2) (g n k cap : Nat) (hk : k ≤ n) (xs zz : List Value) (hx : xs.length = n * 2) (hzz : zz.length = 2)
    (h : w.ownsRow B e 2 (.slice (some ⟨g, 0, none⟩) (n + 1) cap) (n + 1) (xs ++ zz)) (h1 : ∀ u ∈ xs, u.oneCell' = true) :
    ∃ w' r, (Builtin.copy_ #[T, T] ty #[.slice (if cap = k + 1 then some ⟨g, 0, none⟩ else some ⟨g, (k + 1) * 2, none⟩) (n - k) (cap - (k + 1)), .slice (some ⟨g, k * 2, none⟩) (n + 1 - k) (cap - k)]).run P w = .ok r w' ∧
      ∃ y : List Value, y.length = 2 ∧ w'.ownsRow B e 2 (.slice (some ⟨g, 0, none⟩) (n + 1) cap) (n + 1) (xs.take (k * 2) ++ (y ++ xs.drop (k * 2))) ∧ w.grownBy w' (some g) := by
  by_cases hc : cap = k + 1
  · obtain ⟨cur, hB, hg, hc1, hc2, hc3, hc4⟩ := owns_row h
    have hkn : k = n := by omega
    subst hkn
    rw [if_pos hc, Nat.sub_self]
    refine ⟨_, _, run_copy_none w T ty e hu hs g _ _ _ _ cur e hg, zz, hzz, ?_, ?_⟩
    · have e1 : (cur.toList.take 0 ++ [] ++ cur.toList.drop (0 + ([] : List Value).length)).toArray = cur := by simp
      rw [e1, List.take_of_length_le (by omega), List.drop_of_length_le (by omega), List.append_nil]
      exact ⟨h.1, .inr ⟨g, cap, cur, rfl, hB, setRow_heap w g cur cur e _ hg, hc1, hc2, hc3, hc4⟩⟩
    · exact ⟨rfl, rfl, rfl, by simp [World.setRow], fun i hi hne => setRow_other w g i _ (fun e => hne (by rw [e]))⟩
  · obtain ⟨w', hr, y, hy⟩ := copy_up (P := P) w T ty e B hu hs g n k cap hk xs zz hx hzz h h1
    rw [if_neg hc, show n - k = n + 1 - (k + 1) by omega]
    exact ⟨w', _, hr, y, hy⟩
end Go.Proofs.YthdlmmikgpkfhaaGreatDoor

namespace Go.Proofs.YthdlmmikgpkfhaaGreatDoor
set_option linter.unusedVariables false
set_option linter.unusedSimpArgs false
open Go Go.RowKit Go.Sort

theorem blK : ∀ a b : List UInt8, Op.bytesLess a b = decide (Lib.compareBytes a b < 0)
  | [], [] => by simp [Op.bytesLess, Lib.compareBytes]
  | [], b :: bt1 => by simp [Op.bytesLess, Lib.compareBytes]
  | a :: at1, [] => by simp [Op.bytesLess, Lib.compareBytes]
  | a :: at1, b :: bt1 => by
    have ih := blK at1 bt1
    by_cases h1 : a < b
    · have h2 : ¬ b < a := by rw [UInt8.lt_iff_toNat_lt] at *; omega
      simp [Op.bytesLess, Lib.compareBytes, h1, h2]
    · by_cases h2 : b < a
      · have h3 : a ≠ b := fun e => by subst e; exact h1 h2
        simp [Op.bytesLess, Lib.compareBytes, h1, h2, h3]
      · have e : a = b := by
          rw [UInt8.lt_iff_toNat_lt] at *
          exact UInt8.toNat_inj.1 (by omega)
        subst e
        simp [Op.bytesLess, Lib.compareBytes, h1, ih]

/-- Does y stand before x? (As the call asks it.) -/
def ltB (y x : Lt) : Bool := Op.bytesLess y.name.toList x.name.toList || ((y.name.toList == x.name.toList) && (!y.neg && x.neg))
theorem ltB_eq (y x : Lt) : ltB y x = ltOf cmpI y x := by
  unfold ltB ltOf
  rw [blK]
  cases hn : (y.name.toList == x.name.toList)
  · have : cmpI y x = Lib.compareBytes y.name.data.toList x.name.data.toList := by simp [cmpI, hn]
    rw [this, Lib.toList_data, Lib.toList_data]
    simp
  · have he : y.name = x.name := by rw [names_same] at hn; exact of_decide_eq_true hn
    rw [he, cb_self]
    simp only [cmpI, hn]
    cases y.neg <;> cases x.neg <;> simp [he]
theorem ins_up {ys : List Lt} {x : Lt} {k : Nat} (hup : ys.Pairwise fun a b => ltOf cmpI a b = true) (hb : ∀ j (hj : j < ys.length), j < k → ltOf cmpI ys[j] x = true) (ha : ∀ h : k < ys.length, ltOf cmpI x ys[k] = true) :
    (ys.take k ++ x :: ys.drop k).Pairwise fun a b => ltOf cmpI a b = true := by
  have hsplit : (ys.take k ++ ys.drop k).Pairwise fun a b => ltOf cmpI a b = true := by rw [List.take_append_drop]; exact hup
  obtain ⟨h1, h2, h3⟩ := List.pairwise_append.1 hsplit
  have hx : ∀ b ∈ ys.drop k, ltOf cmpI x b = true := fun b hb2 => by
    obtain ⟨j, hj, rfl⟩ := List.getElem_of_mem hb2
    rw [List.length_drop] at hj
    rw [List.getElem_drop]
    by_cases h0 : j = 0
    · subst h0
      exact ha (by omega)
    · exact swo.trans _ _ _ (ha (by omega)) (List.pairwise_iff_getElem.1 hup k (k + j) (by omega) (by omega) (by omega))
  refine List.pairwise_append.2 ⟨h1, List.pairwise_cons.2 ⟨hx, h2⟩, fun a hat b hbt => ?_⟩
  rcases List.mem_cons.1 hbt with rfl | hbt
  · obtain ⟨j, hj, rfl⟩ := List.getElem_of_mem hat
    rw [List.length_take] at hj
    rw [List.getElem_take]
    exact hb j (by omega) (by omega)
  · exact h3 a hat b hbt
theorem ins_len (ys : List Lt) (x : Lt) (k : Nat) : (ys.take k ++ x :: ys.drop k).length = ys.length + 1 := by
  rw [List.length_append, List.length_cons, List.length_take, List.length_drop]
  omega
theorem ins_mem {ys : List Lt} {x y : Lt} {k : Nat} (h : y ∈ ys.take k ++ x :: ys.drop k) : y = x ∨ y ∈ ys := by
  rcases List.mem_append.1 h with h | h
  · exact .inr (List.mem_of_mem_take h)
  · rcases List.mem_cons.1 h with h | h
    · exact .inl h
    · exact .inr (List.mem_of_mem_drop h)
/-- An owned list of literals: its header, its cells. -/
theorem OwnL.form5 {w : World} {B : Nat} {v : Value} {ys : List Lt} (h : OwnL w B v ys) : ∃ (a : Option Addr) (cap : Nat), v = .slice a ys.length cap ∧ ys.length ≤ cap ∧ cap ≤ maxLen ∧
    ∀ i (h : i < ys.length), ∃ g : Nat, a = some ⟨g, 0, none⟩ ∧ B ≤ g ∧ g < w.heap.size ∧ w.cell? ⟨g, i * 2, none⟩ = some (.bool (ys[i]).neg) ∧ w.cell? ⟨g, i * 2 + 1, none⟩ = some (.string (ys[i]).name) := by
  rcases h.2 with ⟨rfl, h0⟩ | ⟨g, cap, cur, hv, hB, hg, hnc, hcm, hcs, htk⟩
  · exact ⟨none, 0, by rw [h0], by omega, by unfold maxLen; omega, fun i hi => by omega⟩
  · refine ⟨_, cap, hv, hnc, hcm, fun i hi => ⟨g, rfl, hB, lt_of_block hg, ?_, ?_⟩⟩
    · refine owns_cell h hv (i * 2) _ ?_
      rw [flatL_eq, show i * 2 = i * 2 + 0 by omega, flat_get encL 2 encL_len ys i 0 hi (by omega)]
      rfl
    · refine owns_cell h hv (i * 2 + 1) _ ?_
      rw [flatL_eq, flat_get encL 2 encL_len ys i 1 hi (by omega)]
      rfl
theorem OwnL.cell5 {w : World} {B : Nat} {a : Option Addr} {n c : Nat} {ys : List Lt} (h : OwnL w B (.slice a n c) ys) : ∀ i (h : i < ys.length), ∃ g : Nat, a = some ⟨g, 0, none⟩ ∧ B ≤ g ∧ g < w.heap.size ∧ w.cell? ⟨g, i * 2, none⟩ = some (.bool (ys[i]).neg) ∧ w.cell? ⟨g, i * 2 + 1, none⟩ = some (.string (ys[i]).name) := by
  obtain ⟨a', c', hv, -, -, hc⟩ := h.form5
  injection hv with hv
  subst hv
  exact hc
theorem OwnL.go {w w' : World} {B : Nat} {v : Value} {ys : List Lt} (h : OwnL w B v ys) (hb : Below w.heap.size w w') : OwnL w' B v ys := owns_kept h fun g e => hb.block g (h.own_block g e).2
theorem OwnL.body {w : World} {B : Nat} {v : Value} {ys : List Lt} (h : OwnL w B v ys) : BodyAt w v ys := by
  rcases h.2 with ⟨rfl, h0⟩ | ⟨g, cap, cur, hv, hB, hg, hnc, hcm, hcs, htk⟩
  · exact .inl ⟨noRow_nil, List.eq_nil_of_length_eq_zero h0⟩
  · refine .inr ⟨g, 0, cap, hv, hnc, hcm, lt_of_block hg, fun i hi => ⟨?_, ?_⟩⟩
    · refine owns_cell h hv (0 + i * 2) _ ?_
      rw [flatL_eq, show 0 + i * 2 = i * 2 + 0 by omega, flat_get encL 2 encL_len ys i 0 hi (by omega)]
      rfl
    · refine owns_cell h hv (0 + i * 2 + 1) _ ?_
      rw [flatL_eq, show 0 + i * 2 + 1 = i * 2 + 1 by omega, flat_get encL 2 encL_len ys i 1 hi (by omega)]
      rfl
/-- Room at place k, filled. -/
theorem put_lit {w : World} {B g n cap k : Nat} {ys : List Lt} {x : Lt} {y : List Value} (hk : k ≤ ys.length) (hn : n = ys.length + 1) (hy : y.length = 2) (h : w.ownsRow B 28 2 (.slice (some ⟨g, 0, none⟩) n cap) n ((flatL ys).take (k * 2) ++ (y ++ (flatL ys).drop (k * 2)))) :
    OwnL ((w.setCell ⟨g, k * 2, none⟩ (.bool x.neg)).setCell ⟨g, k * 2 + 1, none⟩ (.string x.name)) B (.slice (some ⟨g, 0, none⟩) n cap) (ys.take k ++ x :: ys.drop k) := by
  have h1 := (World.ownsRow.stored h (k * 2) (.bool x.neg)).1
  have h2 := (World.ownsRow.stored h1 (k * 2 + 1) (.string x.name)).1
  have hl : (flatL ys).length = ys.length * 2 := flatL_len ys
  have ht : ((flatL ys).take (k * 2)).length = k * 2 := by rw [List.length_take, hl]; omega
  have e : (((flatL ys).take (k * 2) ++ (y ++ (flatL ys).drop (k * 2))).set (k * 2) (.bool x.neg)).set (k * 2 + 1) (.string x.name) = flatL (ys.take k ++ x :: ys.drop k) := by
    match y, hy with
    | [u0, u1], _ =>
      rw [List.set_append_right _ _ (by omega), ht, Nat.sub_self]
      show ((flatL ys).take (k * 2) ++ ([Value.bool x.neg, u1] ++ (flatL ys).drop (k * 2))).set (k * 2 + 1) _ = _
      rw [List.set_append_right _ _ (by omega), ht, Nat.add_sub_cancel_left]
      show (flatL ys).take (k * 2) ++ ([Value.bool x.neg, .string x.name] ++ (flatL ys).drop (k * 2)) = _
      have e1 : flatL (ys.take k) = (flatL ys).take (k * 2) := by
        have := congrArg (List.take (k * 2)) (flatL_append (ys.take k) (ys.drop k))
        rw [List.take_append_drop, List.take_append_of_le_length (by rw [flatL_len, List.length_take]; omega), List.take_of_length_le (l := flatL (ys.take k)) (by rw [flatL_len, List.length_take]; omega)] at this
        exact this.symm
      have e2 : flatL (ys.drop k) = (flatL ys).drop (k * 2) := by
        have := congrArg (List.drop (k * 2)) (flatL_append (ys.take k) (ys.drop k))
        rw [List.take_append_drop, List.drop_append_of_le_length (by rw [flatL_len, List.length_take]; omega), List.drop_of_length_le (l := flatL (ys.take k)) (by rw [flatL_len, List.length_take]; omega)] at this
        exact this.symm
      rw [show ys.take k ++ x :: ys.drop k = ys.take k ++ ([x] ++ ys.drop k) by rfl, flatL_append, flatL_append, flatL_one_lit, e1, e2]
  unfold OwnL
  rw [ins_len, ← hn, ← e]
  exact h2
end Go.Proofs.YthdlmmikgpkfhaaGreatDoor

namespace Go.Proofs.YthdlmmikgpkfhaaGreatDoor
set_option linter.unusedVariables false
set_option linter.unusedSimpArgs false
open Go Go.RowKit

theorem BodyIn.grown {w w' : World} {S : Nat → Prop} {v : Value} {xs : List Lt} {row : Option Nat} (h : BodyIn w S v xs) (hg : w.grownBy w' row) (hr : ∀ g, row = some g → ¬ S g) : BodyIn w' S v xs :=
  h.kept (fun k hS hk => hg.block k hk (fun e => hr k e.symm hS)) hg.size (fun _ hS _ => hS)
theorem BsIn.grown {w w' : World} {B R : Nat} {b : Bs} {pv rv qv : Value} {row : Option Nat} (h : BsIn w B R b pv rv qv) (hg : w.grownBy w' row) (hr : ∀ g, row = some g → g < R) : BsIn w' B R b pv rv qv := by
  have hRB := h.lt
  have hk : ∀ k, R ≤ k → k < w.heap.size → w'.heap[k]? = w.heap[k]? := fun k h1 h2 => hg.block k h2 (fun e => by have := hr k e.symm; omega)
  exact ⟨(hk R (Nat.le_refl _) (lt_of_block h.box)).trans h.box, h.lt,
    owns_kept h.p fun g e => hk g (by have := (owns_blk h.p g e).1; omega) (owns_blk h.p g e).2,
    h.r.kept (fun g e => hk g (by have := (h.r.blk g e).1; omega) (h.r.blk g e).2) (fun k hS hl => hk k (by have := hS.1; omega) hl) hg.size (fun k hS _ => hS),
    owns_kept h.q fun g e => hk g (by have := (owns_blk h.q g e).1; omega) (owns_blk h.q g e).2, h.pr, h.pq, h.rq⟩

/-- The base's box stands behind the result's, and both behind the reader. -/
structure Run5 (w : World) (B b : Nat) (zs : List Int) (wr : World) (q : Nat) (bs : Bs) (pv rv qv : Value) : Prop where
  ok : BsIn wr (w.heap.size + 2) (w.heap.size + 1) bs pv rv qv
  res : wr.heap[w.heap.size]? = some (.cells #[.slice none 0 0, .slice none 0 0, .slice none 0 0] 26 (0, 0))
  src : SrcAt wr B b zs q
  gr : w.grownBy wr (some b)
  lt : b < w.heap.size

section
variable {w wr w' : World} {B b q q' : Nat} {zs : List Int} {bs : Bs} {pv rv qv : Value}
theorem Run5.begin (h : SrcAt w B b zs q) : Run5 w B b zs ((w.alloc (.cells #[.slice none 0 0, .slice none 0 0, .slice none 0 0] 26)).alloc (.cells #[.slice none 0 0, .slice none 0 0, .slice none 0 0] 26)) q ⟨[], [], []⟩ (.slice none 0 0) (.slice none 0 0) (.slice none 0 0) := by
  have h1 := BsIn.new (w.alloc (.cells #[.slice none 0 0, .slice none 0 0, .slice none 0 0] 26))
  rw [size_alloc] at h1
  exact ⟨h1, blk_kept2 (heap_alloc_new w _) (bgrow _ _), (h.alloc _).alloc _, only_alloc (only_alloc (only_refl _ _) _) _, h.lt⟩
theorem Run5.size (h : Run5 w B b zs wr q bs pv rv qv) : w.heap.size + 2 ≤ wr.heap.size := by have := lt_of_block h.ok.box; omega
/-- A call that reads numbers. -/
theorem Run5.call (h : Run5 w B b zs wr q bs pv rv qv) (hs : SrcAt w' B b zs q') (hg : wr.grownBy w' (some b)) : Run5 w B b zs w' q' bs pv rv qv := by
  have hl := h.lt
  have hz := h.size
  exact ⟨h.ok.grown hg (fun g e => by injection e with e; omega), (hg.block w.heap.size (by omega) (fun e => by injection e with e; omega)).trans h.res, hs, only_trans h.gr hg, h.lt⟩
/-- What only makes memory. -/
theorem Run5.more (h : Run5 w B b zs wr q bs pv rv qv) (hb : Below wr.heap.size wr w') : Run5 w B b zs w' q bs pv rv qv :=
  h.call (h.src.grow (only_of_below hb none)) (only_of_below hb _)
theorem Run5.base_le (h : Run5 w B b zs wr q bs pv rv qv) : B ≤ b := h.src.base
theorem own_apart {v : Value} {g : Nat} (h : v.ownBlock = some g) {n : Nat} (hn : n ≤ g) {k : Nat} (hk : k < n) : g ≠ k := by omega

theorem Run5.addP (h : Run5 w B b zs wr q bs pv rv qv) {pv' : Value} {p : Pm} (h2 : w'.ownsRow (w.heap.size + 2) 64 5 pv' (bs.prems.length + 1) (bs.prems.flatMap encPm ++ encPm p)) (hg : wr.grownBy w' pv.ownBlock) (hbl : pv'.ownBlock = pv.ownBlock ∨ pv'.ownBlock = some wr.heap.size) :
    Run5 w B b zs (w'.setCell ⟨w.heap.size + 1, 0, none⟩ pv') q ⟨bs.prems ++ [p], bs.rules, bs.proms⟩ pv' rv qv := by
  have hl := h.lt
  have hz := h.size
  have hB := h.base_le
  have ho : ∀ g, pv.ownBlock = some g → w.heap.size + 2 ≤ g := fun g e => (owns_blk h.ok.p g e).1
  refine ⟨h.ok.addP h2 hg hbl, ?_, (h.src.kept hg (fun g e => ⟨by have := ho g e; omega, by have := ho g e; omega⟩)).setCell _ _ (by show B ≤ w.heap.size + 1; omega) (by show w.heap.size + 1 ≠ b; omega), only_setCell (only_own h.gr hg (fun g e => by have := ho g e; omega)) (.inr (by show w.heap.size ≤ w.heap.size + 1; omega)) _, h.lt⟩
  rw [Below.heap_setCell w' ⟨w.heap.size + 1, 0, none⟩ pv' w.heap.size (by show w.heap.size ≠ w.heap.size + 1; omega)]
  exact (hg.block w.heap.size (by omega) (fun e => by have := ho _ e.symm; omega)).trans h.res
theorem Run5.addQ (h : Run5 w B b zs wr q bs pv rv qv) {qv' : Value} {p : Pr} (h2 : w'.ownsRow (w.heap.size + 2) 68 4 qv' (bs.proms.length + 1) (bs.proms.flatMap encPr ++ encPr p)) (hg : wr.grownBy w' qv.ownBlock) (hbl : qv'.ownBlock = qv.ownBlock ∨ qv'.ownBlock = some wr.heap.size) :
    Run5 w B b zs (w'.setCell ⟨w.heap.size + 1, 2, none⟩ qv') q ⟨bs.prems, bs.rules, bs.proms ++ [p]⟩ pv rv qv' := by
  have hl := h.lt
  have hz := h.size
  have hB := h.base_le
  have ho : ∀ g, qv.ownBlock = some g → w.heap.size + 2 ≤ g := fun g e => (owns_blk h.ok.q g e).1
  refine ⟨h.ok.addQ h2 hg hbl, ?_, (h.src.kept hg (fun g e => ⟨by have := ho g e; omega, by have := ho g e; omega⟩)).setCell _ _ (by show B ≤ w.heap.size + 1; omega) (by show w.heap.size + 1 ≠ b; omega), only_setCell (only_own h.gr hg (fun g e => by have := ho g e; omega)) (.inr (by show w.heap.size ≤ w.heap.size + 1; omega)) _, h.lt⟩
  rw [Below.heap_setCell w' ⟨w.heap.size + 1, 2, none⟩ qv' w.heap.size (by show w.heap.size ≠ w.heap.size + 1; omega)]
  exact (hg.block w.heap.size (by omega) (fun e => by have := ho _ e.symm; omega)).trans h.res
theorem Run5.addR (h : Run5 w B b zs wr q bs pv rv qv) {rv' bv : Value} {r : Ru} {vs : List Value} (hvl : vs.length = bs.rules.length)
    (hf : ∀ i (h : i < bs.rules.length) (h' : i < vs.length), BodyIn wr (fun k => (w.heap.size + 2 ≤ k ∧ pv.ownBlock ≠ some k ∧ qv.ownBlock ≠ some k) ∧ rv.ownBlock ≠ some k) vs[i] bs.rules[i].body)
    (h2 : w'.ownsRow (w.heap.size + 2) 66 6 rv' (bs.rules.length + 1) (((bs.rules.zip vs).flatMap fun x => encRu x.1 x.2) ++ encRu r bv)) (hg : wr.grownBy w' rv.ownBlock) (hbl : rv'.ownBlock = rv.ownBlock ∨ rv'.ownBlock = some wr.heap.size)
    (hb : BodyIn wr (fun k => (w.heap.size + 2 ≤ k ∧ pv.ownBlock ≠ some k ∧ qv.ownBlock ≠ some k) ∧ rv.ownBlock ≠ some k) bv r.body) :
    Run5 w B b zs (w'.setCell ⟨w.heap.size + 1, 1, none⟩ rv') q ⟨bs.prems, bs.rules ++ [r], bs.proms⟩ pv rv' qv := by
  have hl := h.lt
  have hz := h.size
  have hB := h.base_le
  have ho : ∀ g, rv.ownBlock = some g → w.heap.size + 2 ≤ g := fun g e => (h.ok.r.blk g e).1
  refine ⟨h.ok.addR hvl hf h2 hg hbl hb, ?_, (h.src.kept hg (fun g e => ⟨by have := ho g e; omega, by have := ho g e; omega⟩)).setCell _ _ (by show B ≤ w.heap.size + 1; omega) (by show w.heap.size + 1 ≠ b; omega), only_setCell (only_own h.gr hg (fun g e => by have := ho g e; omega)) (.inr (by show w.heap.size ≤ w.heap.size + 1; omega)) _, h.lt⟩
  rw [Below.heap_setCell w' ⟨w.heap.size + 1, 1, none⟩ rv' w.heap.size (by show w.heap.size ≠ w.heap.size + 1; omega)]
  exact (hg.block w.heap.size (by omega) (fun e => by have := ho _ e.symm; omega)).trans h.res
end

theorem flat_one5 (ys : List Lt) : ∀ u ∈ flatL ys, u.oneCell' = true := fun u hu => by
  rw [flatL_eq] at hu
  obtain ⟨x, -, hx⟩ := List.mem_flatMap.1 hu
  rcases List.mem_cons.1 hx with rfl | hx
  · rfl
  · rw [List.mem_singleton.1 hx]; rfl
theorem bgrow_drew (w : World) (n : Nat) (o : Obj) : Below w.heap.size w ((w.drewN n).alloc o) := by
  have h := bgrow (w.drewN n) o
  exact ⟨h.os, h.tape, h.output, h.size, h.block⟩
theorem elemLit : ElemOf 58 28 2 24 := elem_of Tryz.underlying58 infoL rfl (by decide) (by decide)
/-- append of one element, at a step of a walk, with the block of what it hands back. -/
theorem wpList_append_kb {w : World} {ops : Array Oper} {rest : List Oper} {o : Oper} {a : Act} {Q : Exit → Act → World → Prop} (hgd : o.guard = none) (s x : Operand) {T e : TypeId} {k by' : Nat} (hE : ElemOf T e k by')
    (ho : o.op = .call { callee := .builtin .append, args := #[s, x], argTypes := #[T, T] }) (B : Nat) (v : Value) (n : Nat) (xs : List Value) (hs : a.eval s = v) (hown : w.ownsRow B e k v n xs)
    (m c1 : Nat) (hx : a.eval x = .slice (some ⟨m, 0, none⟩) 1 c1) (cs : Array Value) (tm : TypeId) (hm : w.heap[m]? = some (.cells cs tm (0, 0))) (hcs : cs.size = k) (hone : ∀ u ∈ cs.toList, u.oneCell' = true) (hlen : n ≤ 1000000) (hB : B ≤ w.heap.size)
    (h : ∀ g cap w', w'.ownsRow B e k (.slice (some ⟨g, 0, none⟩) (n + 1) cap) (n + 1) (xs ++ cs.toList) → w.grownBy w' v.ownBlock → ((Value.slice (some ⟨g, 0, none⟩) (n + 1) cap).ownBlock = v.ownBlock ∨ (Value.slice (some ⟨g, 0, none⟩) (n + 1) cap).ownBlock = some w.heap.size) → wpList Tryz.prog ops Q rest (a.put o.dst (.slice (some ⟨g, 0, none⟩) (n + 1) cap)) w') : wpList Tryz.prog ops Q (o :: rest) a w :=
  wpList_append_one hgd s x hE ho B v n xs hs hown m c1 hx cs tm hm hcs hone hlen hB fun v' w' h1 h2 h3 => by
    obtain ⟨g, cap, rfl, hg⟩ := owns_slice h1
    exact h g cap w' h1 h2 h3

/-- Boxes that a walk fills cell by cell. -/
theorem set_cells {w : World} {nb i : Nat} {cs : Array Value} {u : Value} {t : TypeId} (h : w.heap[nb]? = some (.cells cs t (0, 0))) : (w.setCell ⟨nb, i, none⟩ u).heap[nb]? = some (.cells (cs.setIfInBounds i u) t (0, 0)) := heap_setCell_same w nb i cs t u h
theorem set_blk5 {w : World} {nb : Nat} {a0 a1 a2 a3 a4 b0 b1 b2 b3 b4 : Value} {t : TypeId} (h : w.heap[nb]? = some (.cells #[a0, a1, a2, a3, a4] t (0, 0))) :
    (((((w.setCell ⟨nb, 0, none⟩ b0).setCell ⟨nb, 1, none⟩ b1).setCell ⟨nb, 2, none⟩ b2).setCell ⟨nb, 3, none⟩ b3).setCell ⟨nb, 4, none⟩ b4).heap[nb]? = some (.cells #[b0, b1, b2, b3, b4] t (0, 0)) :=
  set_cells (set_cells (set_cells (set_cells (set_cells h))))
theorem set_blk6 {w : World} {nb : Nat} {a0 a1 a2 a3 a4 a5 b0 b1 b2 b3 b4 b5 : Value} {t : TypeId} (h : w.heap[nb]? = some (.cells #[a0, a1, a2, a3, a4, a5] t (0, 0))) :
    ((((((w.setCell ⟨nb, 0, none⟩ b0).setCell ⟨nb, 1, none⟩ b1).setCell ⟨nb, 2, none⟩ b2).setCell ⟨nb, 3, none⟩ b3).setCell ⟨nb, 4, none⟩ b4).setCell ⟨nb, 5, none⟩ b5).heap[nb]? = some (.cells #[b0, b1, b2, b3, b4, b5] t (0, 0)) :=
  set_cells (set_cells (set_cells (set_cells (set_cells (set_cells h)))))
end Go.Proofs.YthdlmmikgpkfhaaGreatDoor
