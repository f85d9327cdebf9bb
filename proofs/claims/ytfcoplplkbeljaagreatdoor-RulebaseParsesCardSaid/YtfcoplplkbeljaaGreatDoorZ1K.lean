/- What Parse answers, in plain words. One line added to a rule base. -/
import Derived.Test.YtfcoplplkbeljaaGreatDoorZ1G
import Derived.Test.YtfcoplplkbeljaaGreatDoorZ1F
import Derived.Test.YtfcoplplkbeljaaGreatDoorZ1J

namespace Go.Proofs.YtfcoplplkbeljaaGreatDoor
set_option linter.unusedVariables false
set_option linter.unusedSimpArgs false
open Go Go.RowKit

/-- What a line adds, and whether it may. -/
def addRu (b : Bs) (line : ByteArray) (st : Bool) (a : Ru × Rd) : Bs × Bool := (⟨b.prems, b.rules ++ [a.1], b.proms⟩, !a.2.bad && sameB line (ruleT a.1 a.1.rank.toNat) && decide (b.proms.length = 0))
def addPr (b : Bs) (line : ByteArray) (a : Pr × Rd) : Bs × Bool := (⟨b.prems, b.rules, b.proms ++ [a.1]⟩, !a.2.bad && sameB line (promT a.1 a.1.rank.toNat))
def addPm (b : Bs) (line : ByteArray) (a : Pm × Rd) : Bs × Bool := (⟨b.prems ++ [a.1], b.rules, b.proms⟩, !a.2.bad && sameB line (premT a.1 a.1.rank.toNat) && decide (b.rules.length + b.proms.length = 0))
def addL2 (b : Bs) (line : ByteArray) (ws : List ByteArray) : Bs × Bool :=
  if isStrict (hdW ws) || isRule (hdW ws) then addRu b line (isStrict (hdW ws)) (rdRule (isStrict (hdW ws)) ⟨ws.tail, false⟩)
  else if isPromote (hdW ws) then addPr b line (rdProm ⟨ws.tail, false⟩)
  else addPm b line (rdPrem (kindT (hdW ws)) ⟨ws.tail, false⟩)
def addL (b : Bs) (line : ByteArray) : Bs × Bool := addL2 b line (wordsOf line)

/-- The place of the first line feed, and the parts before and behind it. -/
def ixN (s : ByteArray) : Int := Lib.indexByte s.data.toList 10
def lineN (s : ByteArray) : ByteArray := if 0 ≤ ixN s then s.extract 0 (ixN s).toNat else s
def restN (s : ByteArray) : ByteArray := if 0 ≤ ixN s then s.extract ((ixN s).toNat + 1) s.size else ⟨#[]⟩

/-- Parse's loop: the base and 0, or the number of the first line that is none. -/
def linesE : Nat → Nat → Bs → ByteArray → Bs × Nat
  | 0, n, b, _ => (b, n)
  | f + 1, n, b, s =>
    if s.size = 0 then (b, 0)
    else if decide (0 ≤ ixN s) && (addL b (lineN s)).2 then linesE f (n + 1) (addL b (lineN s)).1 (restN s)
    else (b, n)

/-- What Parse answers: base, line and error. -/
def parse5a (a : Bs × Nat) : Bs × Nat × Int :=
  if a.2 ≠ 0 then (⟨[], [], []⟩, a.2, 3)
  else if baseE a.1 ≠ 0 then (⟨[], [], []⟩, 0, baseE a.1)
  else (a.1, 0, 0)
def parse5 (s : ByteArray) : Bs × Nat × Int :=
  if 4096 < s.size then (⟨[], [], []⟩, 0, 2) else parse5a (linesE (s.size + 1) 1 ⟨[], [], []⟩ s)

theorem litW_size (x : ByteArray) : (litW x).name.size ≤ 12 := by
  show (parsedName x).size ≤ 12
  unfold parsedName
  split
  · exact vn_size (by assumption)
  · exact Nat.zero_le _
theorem or_false_l {a b : Bool} (h : (a || b) = false) : a = false := by cases a <;> simp_all
theorem or_false_r {a b : Bool} (h : (a || b) = false) : b = false := by cases a <;> simp_all
theorem rdName_fit {r : Rd} {sg : ByteArray} (h : (rdName r sg).2.bad = false) : r.bad = false ∧ (rdName r sg).1.size ≤ 12 := by
  refine ⟨or_false_l h, vn_size ?_⟩
  have := or_false_r h
  have h2 : vn (trimT (hdW r.ws) sg) = true := by simpa using this
  exact h2
theorem rdRank_fit {r : Rd} {sg : ByteArray} (h : (rdRank r sg).2.bad = false) : r.bad = false ∧ 0 ≤ (rdRank r sg).1 ∧ (rdRank r sg).1 ≤ 9 := by
  refine ⟨or_false_l h, ?_⟩
  have := or_false_r h
  have h2 : (atoiOk (trimT (hdW r.ws) sg) && rankB (atoiV (trimT (hdW r.ws) sg)) true) = true := by simpa using this
  exact rankB_fit (Bool.and_eq_true _ _ |>.mp h2).2
theorem rdLit_fit {r : Rd} {sg : ByteArray} (h : (rdLit r sg).2.bad = false) : r.bad = false := or_false_l h
theorem rdRule_fit {st : Bool} {r : Rd} (hn : r.ws.length ≤ 5000) (h : (rdRule st r).2.bad = false) :
    (rdRule st r).1.name.size ≤ 12 ∧ (0 ≤ (rdRule st r).1.rank ∧ (rdRule st r).1.rank ≤ 9) ∧ (rdRule st r).1.head.name.size ≤ 12 ∧ (∀ x ∈ (rdRule st r).1.body, x.name.size ≤ 12) ∧ (rdRule st r).1.body.length ≤ 5000 := by
  have h3 : (rdRule2 st r).2.bad = false := rdLit_fit (r := rdWord (rdRule2 st r).2) h
  have h2 : (rdRule1 st r).2.bad = false := or_false_l h3
  have h1 : (rdName r colT).2.bad = false ∧ 0 ≤ (rdRule1 st r).1 ∧ (rdRule1 st r).1 ≤ 9 := by
    cases st
    · exact rdRank_fit h2
    · exact ⟨h2, by show (0 : Int) ≤ 0; omega, by show (0 : Int) ≤ 9; omega⟩
  have hl : (rdRule1 st r).2.ws.length ≤ 5000 := by
    cases st
    · show (r.ws.tail.tail).length ≤ 5000
      simp only [List.length_tail]; omega
    · show (r.ws.tail).length ≤ 5000
      simp only [List.length_tail]; omega
  refine ⟨(rdName_fit h1.1).2, h1.2, litW_size _, ?_, ?_⟩
  · intro x hx
    obtain ⟨y, -, rfl⟩ := List.mem_map.1 hx
    exact litW_size _
  · show (List.map _ _).length ≤ 5000
    rw [List.length_map, List.length_take]; omega
theorem rdProm_fit {r : Rd} (h : (rdProm r).2.bad = false) : (0 ≤ (rdProm r).1.rank ∧ (rdProm r).1.rank ≤ 9) ∧ (rdProm r).1.rule.size ≤ 12 ∧ (rdProm r).1.lit.name.size ≤ 12 := by
  have h2 : (rdProm1 r).2.bad = false := rdLit_fit (r := rdWord (rdProm1 r).2) h
  have h1 := rdRank_fit h2
  exact ⟨h1.2, (rdName_fit h1.1).2, litW_size _⟩
theorem kindT_cases (s : ByteArray) (h : kindT s ≠ 0) : kindT s = 1 ∨ kindT s = 2 ∨ kindT s = 3 := by
  unfold kindT at *
  split <;> simp_all
  split <;> simp_all
theorem rdPrem_fit {s : ByteArray} {r : Rd} (h : (rdPrem (kindT s) r).2.bad = false) : PmFit (rdPrem (kindT s) r).1 := by
  have h3 : (rdPrem3 (kindT s) r).2.bad = false := h
  have h2 : (rdPrem2 (kindT s) r).2.bad = false ∧ (rdPrem3 (kindT s) r).1.size ≤ 12 := by
    unfold rdPrem3 at h3 ⊢
    split at h3
    · rename_i h0
      rw [if_pos h0]
      exact ⟨h3, Nat.zero_le _⟩
    · rename_i h0
      rw [if_neg h0]
      exact rdName_fit h3
  have h1 : (rdPrem1 (kindT s) r).2.bad = false ∧ 0 ≤ (rdPrem2 (kindT s) r).1 ∧ (rdPrem2 (kindT s) r).1 ≤ 9 := by
    have h2' := h2.1
    unfold rdPrem2 at h2' ⊢
    split at h2'
    · rename_i h0
      rw [if_pos h0]
      exact rdRank_fit h2'
    · rename_i h0
      rw [if_neg h0]
      exact ⟨h2', by show (0 : Int) ≤ 0; omega, by show (0 : Int) ≤ 9; omega⟩
  have h0 := or_false_r (rdLit_fit h1.1)
  exact ⟨kindT_cases s (by simpa using h0), h1.2, h2.2, litW_size _⟩
end Go.Proofs.YtfcoplplkbeljaaGreatDoor

namespace Go.Proofs.YtfcoplplkbeljaaGreatDoor
set_option linter.unusedVariables false
set_option linter.unusedSimpArgs false
open Go Go.RowKit

theorem fieldsGoD_len : ∀ (f : Nat) (cur l : List UInt8), (Lib.fieldsGoD f cur l).length ≤ f + 1 ∧ ∀ x ∈ Lib.fieldsGoD f cur l, x.length ≤ cur.length + l.length
  | 0, cur, l => by
    unfold Lib.fieldsGoD
    split
    · exact ⟨by simp, fun x hx => by simp at hx⟩
    · exact ⟨by simp, fun x hx => by rw [List.mem_singleton.1 hx]; omega⟩
  | f + 1, cur, l => by
    unfold Lib.fieldsGoD
    split
    · split
      · exact ⟨by simp, fun x hx => by simp at hx⟩
      · exact ⟨by simp, fun x hx => by rw [List.mem_singleton.1 hx]; omega⟩
    · split
      · have ih := fieldsGoD_len f [] (l.drop (Lib.decodeL l).2)
        refine ⟨?_, fun x hx => ?_⟩
        · rw [List.length_append]
          have : (if cur = [] then ([] : List (List UInt8)) else [cur]).length ≤ 1 := by split <;> simp
          omega
        · rcases List.mem_append.1 hx with h | h
          · split at h
            · simp at h
            · rw [List.mem_singleton.1 h]; omega
          · have := ih.2 x h
            simp only [List.length_nil, List.length_drop] at this
            omega
      · have ih := fieldsGoD_len f (cur ++ l.take (Lib.decodeL l).2) (l.drop (Lib.decodeL l).2)
        refine ⟨by omega, fun x hx => ?_⟩
        have := ih.2 x hx
        simp only [List.length_append, List.length_take, List.length_drop] at this
        omega
theorem words_len (s : ByteArray) (hs : s.size ≤ 4096) : (wordsOf s).length ≤ 5000 ∧ WsOk (wordsOf s) := by
  have hl : s.data.toList.length = s.size := Array.length_toList
  have h := fieldsGoD_len (s.data.toList.length + 1) [] s.data.toList
  refine ⟨?_, fun x hx => ?_⟩
  · unfold wordsOf Lib.fieldsD
    rw [List.length_map]
    omega
  · obtain ⟨y, hy, rfl⟩ := List.mem_map.1 hx
    have := h.2 y hy
    show y.toArray.size ≤ 4096
    rw [List.size_toArray]
    simp only [List.length_nil] at this
    omega

theorem fields5_any (s : ByteArray) (hs : s.size ≤ 4096) (w : World) (hE : EnvOk w) :
    Calls Tryz.prog 92 #[.string s] w fun e w' => ∃ A : Nat, e = .returned (.slice (some ⟨A, 0, none⟩) (wordsOf s).length (wordsOf s).length) ∧ A < w'.heap.size ∧ (∀ i (h : i < (wordsOf s).length), w'.cell? ⟨A, i, none⟩ = some (.string (wordsOf s)[i])) ∧ Below w.heap.size w w' := by
  refine (Tryz.strings_Fields_any s w (by omega) hE.tab hE.white).mono fun e w' ⟨A, he, hA, hown, hb⟩ => ?_
  have hl : (wordsOf s).length = (Lib.fieldsD s.data.toList).length := by unfold wordsOf; rw [List.length_map]
  refine ⟨A, by rw [hl]; exact he, (owns_blk hown A rfl).2, fun i hi => ?_, hb⟩
  exact owns_cell hown rfl i _ (by
    have hg : (wordsOf s)[i] = ⟨((Lib.fieldsD s.data.toList)[i]'(by omega)).toArray⟩ := by simp only [wordsOf, List.getElem_map]
    rw [List.getElem?_map, List.getElem?_eq_getElem (by omega), hg]
    rfl)

theorem below_app5 {n : Nat} {w a a' : World} {row : Option Nat} (h : Below n w a) (hg : a.grownBy a' row) (hr : ∀ g, row = some g → n ≤ g) (hna : n ≤ a.heap.size) : Below n w a' :=
  ⟨hg.os.trans h.os, hg.tape.trans h.tape, hg.output.trans h.output, Nat.le_trans h.size hg.size, fun k hk => (hg.block k (by omega) (fun e => by have := hr k e.symm; omega)).trans (h.block k hk)⟩
theorem below_set5 {n b i : Nat} {u : Value} {w a : World} (h : Below n w a) (hb : n ≤ b) : Below n w (a.setCell ⟨b, i, none⟩ u) :=
  ⟨h.os, h.tape, h.output, by rw [size_setCell]; exact h.size, fun k hk => (Below.heap_setCell a ⟨b, i, none⟩ u k (by show k ≠ b; omega)).trans (h.block k hk)⟩
theorem BodyIn.len {w : World} {S : Nat → Prop} {a : Option Addr} {n c : Nat} {xs : List Lt} (h : BodyIn w S (.slice a n c) xs) : n = xs.length := by
  rcases h with ⟨h1, h2⟩ | ⟨b, off, cap, h1, -⟩
  · injection h1 with e1 e2 e3
    subst h2
    exact e2
  · injection h1 with e1 e2 e3

end Go.Proofs.YtfcoplplkbeljaaGreatDoor
