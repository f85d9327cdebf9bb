/- Rows of formulas that a call makes. -/
import Derived.Test.YtpiiadmjddikfaaDoorTree
import Derived.Laws.AppendOwn
import Derived.Laws.AppendOwnNone
namespace Go.Proofs.YtpiiadmjddikfaaDoor
set_option linter.unusedVariables false
set_option linter.unusedSimpArgs false
open Go.RowKit

/-- The three cells of a formula. -/
structure Hd where
  op : Int
  name : ByteArray
  a : Option Addr
  n : Nat
  c : Nat
def Hd.cells (h : Hd) : List Value := [.int .i64 h.op, .string h.name, .slice h.a h.n h.c]
def Hd.val (h : Hd) : Value := .agg #[.int .i64 h.op, .string h.name, .slice h.a h.n h.c]
def flatF : List Hd → List Value
  | [] => []
  | h :: l => h.cells ++ flatF l

theorem flatF_append : ∀ l m : List Hd, flatF (l ++ m) = flatF l ++ flatF m
  | [], m => rfl
  | h :: l, m => by simp only [List.cons_append, flatF, flatF_append l m, List.append_assoc]
theorem flatF_len : ∀ l : List Hd, (flatF l).length = l.length * 3
  | [] => rfl
  | h :: l => by simp only [flatF, List.length_append, flatF_len l, List.length_cons, Hd.cells, List.length_nil]; omega
theorem flatF_get : ∀ (l : List Hd) (i j : Nat) (hi : i < l.length), j < 3 → (flatF l)[i * 3 + j]? = (l[i]).cells[j]?
  | h :: l, 0, j, _, hj => by
    show (h.cells ++ flatF l)[0 * 3 + j]? = h.cells[j]?
    rw [List.getElem?_append_left (by simp [Hd.cells]; omega)]
    simp
  | h :: l, i + 1, j, hi, hj => by
    show (h.cells ++ flatF l)[(i + 1) * 3 + j]? = (l[i]'(by simpa using hi)).cells[j]?
    rw [List.getElem?_append_right (by simp [Hd.cells]; omega), ← flatF_get l i j (by simpa using hi) hj]
    congr 1
    simp [Hd.cells]
    omega
theorem flatF_one (l : List Hd) : ∀ u ∈ flatF l, u.oneCell' = true := by
  induction l with
  | nil => intro u hu; cases hu
  | cons h l ih =>
    intro u hu
    rcases List.mem_append.1 hu with hu | hu
    · simp only [Hd.cells, List.mem_cons, List.not_mem_nil, or_false] at hu
      rcases hu with rfl | rfl | rfl <;> rfl
    · exact ih u hu

/-- The header of a formula's value. -/
def Tree.hd (t : Tree) (a : Option Addr) (c : Nat) : Hd := ⟨t.op, t.name, a, t.args.length, c⟩

theorem FormIn.hd {w : World} {S : Nat → Prop} {v : Value} {t : Tree} (h : FormIn w S v t) : ∃ a c, v = (t.hd a c).val := by
  obtain ⟨a, cap, b, off, rfl, -⟩ := h.form
  exact ⟨a, cap, rfl⟩

/-- A row of formulas makes the arguments of one. -/
theorem FormIn.mk {w : World} {S : Nat → Prop} {op : Int} {name : ByteArray} {a : Option Addr} {n cap : Nat} {ts : List Tree} (h : FormsIn w S a ts) (hn : n = ts.length) (hop : I64 op) (hname : name.size ≤ maxLen) (hlen : ts.length ≤ cap) (hcap : cap ≤ maxLen) :
    FormIn w S (.agg #[.int .i64 op, .string name, .slice a n cap]) (.node op name ts) := by
  subst hn
  obtain ⟨b, off, ha, hc⟩ := h
  have hc' : ∀ i, ∃ v : Value, ∀ h : i < ts.length, w.cell? ⟨b, off + i * 3, none⟩ = some (.int .i64 ts[i].op) ∧ w.cell? ⟨b, off + i * 3 + 1, none⟩ = some (.string ts[i].name) ∧ w.cell? ⟨b, off + i * 3 + 2, none⟩ = some v ∧ FormIn w S (.agg #[.int .i64 ts[i].op, .string ts[i].name, v]) ts[i] := by
    intro i
    by_cases h : i < ts.length
    · obtain ⟨a', c', h0, h1, h2, h3⟩ := hc i h
      exact ⟨_, fun _ => ⟨h0, h1, h2, h3⟩⟩
    · exact ⟨.nilFunc, fun h' => absurd h' h⟩
  refine .node op name a cap ts b off (fun i => if h : i < ts.length then ts[i].op else 0) (fun i => if h : i < ts.length then ts[i].name else ⟨#[]⟩) (fun i => Classical.choose (hc' i)) hop hname hlen hcap ha (fun i hi => ?_) (fun i hi => ?_)
  · obtain ⟨h0, h1, h2, h3⟩ := Classical.choose_spec (hc' i) hi
    rw [dif_pos hi, dif_pos hi]
    exact ⟨h0, h1, h2⟩
  · obtain ⟨h0, h1, h2, h3⟩ := Classical.choose_spec (hc' i) hi
    rw [dif_pos hi, dif_pos hi]
    exact h3

theorem FormsIn.nil {w : World} {S : Nat → Prop} (a : Option Addr) : FormsIn w S a [] := ⟨0, 0, fun h => by simp at h, fun i h => by simp at h⟩

/-- A row of cells that are headers. -/
theorem FormsIn.of_cells {w : World} {S : Nat → Prop} {nb off : Nat} (hs : List (Option Addr × Nat)) (ts : List Tree) (hlen : hs.length = ts.length) (hne : S nb)
    (hcell : ∀ j u, (flatF (List.zipWith (fun t x => t.hd x.1 x.2) ts hs))[j]? = some u → w.cell? ⟨nb, off + j, none⟩ = some u)
    (hf : ∀ i (h : i < ts.length) (h' : i < hs.length), FormIn w S (ts[i].hd hs[i].1 hs[i].2).val ts[i]) : FormsIn w S (some ⟨nb, off, none⟩) ts := by
  refine ⟨nb, off, fun _ => ⟨rfl, hne⟩, fun i hi => ?_⟩
  have hi' : i < hs.length := by omega
  have hz : i < (List.zipWith (fun t (x : Option Addr × Nat) => t.hd x.1 x.2) ts hs).length := by rw [List.length_zipWith]; omega
  have g : ∀ j, j < 3 → (flatF (List.zipWith (fun t x => t.hd x.1 x.2) ts hs))[i * 3 + j]? = (ts[i].hd hs[i].1 hs[i].2).cells[j]? := fun j hj => by
    rw [flatF_get _ i j hz hj, List.getElem_zipWith]
  have g0 := hcell _ _ (g 0 (by omega))
  have g1 := hcell _ _ (g 1 (by omega))
  have g2 := hcell _ _ (g 2 (by omega))
  exact ⟨_, _, g0, g1, g2, hf i hi hi'⟩

theorem FormsIn.one {w : World} {S : Nat → Prop} {nb : Nat} {o : Int} {s : ByteArray} {a : Option Addr} {n c : Nat} {ty : TypeId} {t : Tree} (hk : w.heap[nb]? = some (.cells #[.int .i64 o, .string s, .slice a n c] ty (0, 0))) (hS : S nb) (hf : FormIn w S (.agg #[.int .i64 o, .string s, .slice a n c]) t) : FormsIn w S (some ⟨nb, 0, none⟩) [t] := by
  obtain ⟨rfl, rfl, rfl⟩ := hf.shape
  obtain ⟨c0, c1, c2⟩ := cell_of3 hk
  refine ⟨nb, 0, fun _ => ⟨rfl, hS⟩, fun i hi => ?_⟩
  obtain rfl : i = 0 := by simp at hi; exact hi
  exact ⟨a, c, c0, c1, c2, hf⟩
theorem FormsIn.two {w : World} {S : Nat → Prop} {nb : Nat} {o o' : Int} {s s' : ByteArray} {a a' : Option Addr} {n c n' c' : Nat} {ty : TypeId} {t u : Tree} (hk : w.heap[nb]? = some (.cells #[.int .i64 o, .string s, .slice a n c, .int .i64 o', .string s', .slice a' n' c'] ty (0, 0))) (hS : S nb)
    (hf : FormIn w S (.agg #[.int .i64 o, .string s, .slice a n c]) t) (hg : FormIn w S (.agg #[.int .i64 o', .string s', .slice a' n' c']) u) : FormsIn w S (some ⟨nb, 0, none⟩) [t, u] := by
  obtain ⟨rfl, rfl, rfl⟩ := hf.shape
  obtain ⟨rfl, rfl, rfl⟩ := hg.shape
  refine ⟨nb, 0, fun _ => ⟨rfl, hS⟩, fun i hi => ?_⟩
  have h2 : i = 0 ∨ i = 1 := by simp at hi; omega
  rcases h2 with rfl | rfl
  · exact ⟨a, c, by simp [World.cell?, hk], by simp [World.cell?, hk], by simp [World.cell?, hk], hf⟩
  · exact ⟨a', c', by simp [World.cell?, hk], by simp [World.cell?, hk], by simp [World.cell?, hk], hg⟩
end Go.Proofs.YtpiiadmjddikfaaDoor
