/- Substitution in formulas: what it does to values. -/
import Derived.Test.YtbihnfocghcplaaGreatDoorSubst
namespace Go.Proofs.YtbihnfocghcplaaGreatDoor
set_option linter.unusedVariables false
set_option linter.unusedSimpArgs false
open Go.RowKit

mutual
/-- The formula with g in the place of the atom p. -/
def substT (p : ByteArray) (g : Tree) : Tree → Tree
  | .node op name ts => if op = 3 ∧ ts.length = 0 ∧ name = p then g else .node op name (substTs p g ts)
def substTs (p : ByteArray) (g : Tree) : List Tree → List Tree
  | [] => []
  | t :: ts => substT p g t :: substTs p g ts
end
theorem substTs_map (p : ByteArray) (g : Tree) : ∀ ts, substTs p g ts = ts.map (substT p g)
  | [] => rfl
  | t :: ts => by rw [substTs, substTs_map p g ts]; rfl
theorem substT_node (p : ByteArray) (g : Tree) (op : Int) (name : ByteArray) (ts : List Tree) : substT p g (.node op name ts) = if op = 3 ∧ ts.length = 0 ∧ name = p then g else .node op name (ts.map (substT p g)) := by
  rw [substT, substTs_map]

/-- The atoms that are true, with p's value turned to b. -/
def withP (yes : List ByteArray) (p : ByteArray) (b : Bool) : List ByteArray := (yes.filter fun x => x.data.toList != p.data.toList) ++ (if b then [p] else [])

theorem inB_with (yes : List ByteArray) (p : ByteArray) (b : Bool) (s : ByteArray) : inB (withP yes p b) s = if s = p then b else inB yes s := by
  have h1 : (yes.filter fun x => x.data.toList != p.data.toList).any (fun x => x.data.toList == s.data.toList) = if s = p then false else inB yes s := by
    induction yes with
    | nil => simp [inB]
    | cons x l ih =>
      by_cases hx : x = p
      · subst hx
        rw [List.filter_cons_of_neg (by simp), ih]
        by_cases hs : s = x
        · simp [hs]
        · have : (x.data.toList == s.data.toList) = false := by
            rw [Bool.eq_false_iff]
            intro e
            exact hs (bytes_inj (eq_of_beq e)).symm
          rw [if_neg hs, if_neg hs]
          unfold inB
          rw [List.any_cons, this, Bool.false_or]
      · have hne : (x.data.toList != p.data.toList) = true := by
          rw [bne_iff_ne]
          intro e
          exact hx (bytes_inj e)
        rw [List.filter_cons_of_pos (by simpa using hne), List.any_cons, ih]
        by_cases hs : s = p
        · subst hs
          simp only [if_true, Bool.or_false]
          rw [Bool.eq_false_iff]
          intro e
          exact hx (bytes_inj (eq_of_beq e))
        · simp [hs, inB]
  unfold inB withP
  rw [List.any_append, h1]
  by_cases hs : s = p
  · subst hs
    cases b <;> simp
  · have : (p.data.toList == s.data.toList) = false := by
      rw [Bool.eq_false_iff]
      intro e
      exact hs (bytes_inj (eq_of_beq e)).symm
    rw [if_neg hs, if_neg hs]
    cases b
    · simp [inB]
    · simp only [if_true, List.any_cons, this, List.any_nil, Bool.or_false]
      rfl

theorem allL_all {p : Tree → Bool} : ∀ {ts : List Tree}, allL p ts = true ↔ ∀ t ∈ ts, t.all p = true
  | [] => by simp [allL]
  | t :: ts => by simp [allL, allL_all (ts := ts)]

theorem wellF_mk {op : Int} {name : ByteArray} {ts : List Tree} (hk : kindB (.node op name ts) = true) (hn : nameB (.node op name ts) = true) (h : ∀ t ∈ ts, wellF t = true) : wellF (.node op name ts) = true := by
  show (kindB _ && nameB _ && allL _ ts) = true
  rw [hk, hn, allL_all.2 h]
  rfl
theorem wellF_parts {op : Int} {name : ByteArray} {ts : List Tree} (h : wellF (.node op name ts) = true) : kindB (.node op name ts) = true ∧ nameB (.node op name ts) = true ∧ ∀ t ∈ ts, wellF t = true := by
  have h1 : (kindB (.node op name ts) && nameB (.node op name ts) && allL (fun t => kindB t && nameB t) ts) = true := h
  simp only [Bool.and_eq_true] at h1
  exact ⟨h1.1.1, h1.1.2, allL_all.1 h1.2⟩

def kindN (op : Int) (n : Nat) : Bool :=
  if op = 1 ∨ op = 2 ∨ op = 3 then n == 0
  else if op = 4 then n == 1
  else if op = 5 ∨ op = 6 then decide (2 ≤ n ∧ n ≤ 6)
  else if op = 7 ∨ op = 8 then n == 2
  else false
theorem kindB_len {op : Int} {name : ByteArray} {ts us : List Tree} (h : ts.length = us.length) : kindB (.node op name us) = kindB (.node op name ts) := by
  have e : ∀ zs : List Tree, kindB (.node op name zs) = kindN op zs.length := fun _ => rfl
  rw [e, e, h]
theorem nameB_len {op : Int} {name : ByteArray} {ts us : List Tree} : nameB (.node op name us) = nameB (.node op name ts) := rfl

theorem subst_well (p : ByteArray) (g : Tree) (hg : wellF g = true) : ∀ t : Tree, wellF t = true → wellF (substT p g t) = true := by
  refine Tree.ind fun op name ts ih h => ?_
  obtain ⟨hk, hn, hts⟩ := wellF_parts h
  rw [substT_node]
  by_cases hc : op = 3 ∧ ts.length = 0 ∧ name = p
  · rw [if_pos hc]; exact hg
  · rw [if_neg hc]
    refine wellF_mk (by rw [kindB_len (ts := ts) (by simp)]; exact hk) (by rw [nameB_len (ts := ts)]; exact hn) fun t ht => ?_
    obtain ⟨u, hu, rfl⟩ := List.mem_map.1 ht
    exact ih u hu (hts u hu)

theorem subst_value (P : ByteArray → Bool) (p : ByteArray) (g : Tree) : ∀ t : Tree, wellF t = true → valueB P (substT p g t) = valueB (fun s => if s = p then valueB P g else P s) t := by
  refine Tree.ind fun op name ts ih h => ?_
  obtain ⟨hk, hn, hts⟩ := wellF_parts h
  rw [substT_node]
  have hmap : (ts.map (substT p g)).map (valueB P) = ts.map (valueB fun s => if s = p then valueB P g else P s) := by
    rw [List.map_map]
    refine List.map_congr_left fun t ht => ?_
    exact ih t ht (hts t ht)
  by_cases h3 : op = 3
  · subst h3
    have hl : ts.length = 0 := by
      unfold kindB at hk
      simp only [Tree.op_node, Tree.args_node] at hk
      simpa using hk
    by_cases hp : name = p
    · rw [if_pos ⟨rfl, hl, hp⟩]
      simp [valueB, hp]
    · rw [if_neg (fun hc => hp hc.2.2)]
      simp [valueB, hp]
  · rw [if_neg (fun hc => h3 hc.1)]
    have hop : op = 1 ∨ op = 2 ∨ op = 4 ∨ op = 5 ∨ op = 6 ∨ op = 7 ∨ op = 8 := by
      unfold kindB at hk
      simp only [Tree.op_node] at hk
      grind
    simp only [valueB, valuesB_map, hmap]
    rcases hop with rfl | rfl | rfl | rfl | rfl | rfl | rfl <;> rfl

theorem subst_eval (p : ByteArray) (f g : Tree) (yes : List ByteArray) (hf : wellF f = true) (hg : wellF g = true) : evalB (substT p g f) yes = evalB f (withP yes p (evalB g yes)) := by
  unfold evalB
  rw [subst_well p g hg f hf, hf, hg, Bool.true_and, Bool.true_and, Bool.true_and, subst_value (inB yes) p g f hf]
  congr 1
  funext s
  exact (inB_with yes p (valueB (inB yes) g) s).symm
end Go.Proofs.YtbihnfocghcplaaGreatDoor
