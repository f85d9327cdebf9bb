/- Formulas that are built from numbers: what they are. -/
import Derived.Test.YtpiiadmjddikfaaDoorFText
import Derived.Test.YtpiiadmjddikfaaDoorMapS
namespace Go.Proofs.YtpiiadmjddikfaaDoor
set_option linter.unusedVariables false
set_option linter.unusedSimpArgs false
open Go.RowKit

/-- The name of one letter. -/
def letter (m : Nat) : ByteArray := ⟨#[UInt8.ofNat (97 + m)]⟩

/-- A node as the builder of package keep makes it, over n atoms. -/
def nodeG (n : Nat) (t : Tree) : Bool := kindB t && nameB t && decide (t.args.length ≤ 3) && (t.op != 3 || (List.range n).any fun m => t.name.data.toList == (letter m).data.toList)

theorem all_imp {p q : Tree → Bool} (h : ∀ t, p t = true → q t = true) : ∀ t : Tree, t.all p = true → t.all q = true := by
  refine Tree.ind fun op name ts ih ha => ?_
  obtain ⟨h1, h2⟩ := all_self ha
  have h3 : allL q ts = true := by
    have key : ∀ l : List Tree, (∀ t ∈ l, t.all q = true) → allL q l = true := by
      intro l
      induction l with
      | nil => exact fun _ => rfl
      | cons t l ih2 => intro hl; simp only [allL, hl t (by simp), ih2 fun t ht => hl t (by simp [ht]), Bool.and_self]
    exact key ts fun t ht => ih t ht (allL_mem h2 t ht)
  simp only [Tree.all, h _ h1, h3, Bool.and_self]

theorem nodeG_kind {n : Nat} {t : Tree} (h : nodeG n t = true) : kindB t = true := by simp only [nodeG, Bool.and_eq_true] at h; exact h.1.1.1
theorem nodeG_name {n : Nat} {t : Tree} (h : nodeG n t = true) : nameB t = true := by simp only [nodeG, Bool.and_eq_true] at h; exact h.1.1.2
theorem nodeG_args {n : Nat} {t : Tree} (h : nodeG n t = true) : t.args.length ≤ 3 := by simp only [nodeG, Bool.and_eq_true, decide_eq_true_eq] at h; exact h.1.2
theorem nodeG_atom {n : Nat} {t : Tree} (h : nodeG n t = true) (ho : t.op = 3) : ∃ m, m < n ∧ t.name = letter m := by
  simp only [nodeG, Bool.and_eq_true, Bool.or_eq_true, bne_iff_ne, ne_eq, List.any_eq_true, List.mem_range] at h
  rcases h.2 with h | ⟨m, hm, he⟩
  · exact absurd ho h
  · exact ⟨m, hm, bytes_inj (eq_of_beq he)⟩

/-- How many nodes a formula of a depth has at most. -/
def maxNodes : Nat → Nat
  | 0 => 1
  | d + 1 => 1 + 3 * maxNodes d
theorem maxNodes_le {a b : Nat} (h : a ≤ b) : maxNodes a ≤ maxNodes b := by
  induction b with
  | zero => obtain rfl : a = 0 := by omega
            exact Nat.le_refl _
  | succ b ih =>
    by_cases e : a = b + 1
    · subst e; exact Nat.le_refl _
    · have := ih (by omega)
      simp only [maxNodes]
      omega

theorem nodesL_bound : ∀ (ts : List Tree) (d : Nat), (∀ t ∈ ts, t.nodes ≤ d) → nodesL ts ≤ ts.length * d
  | [], d, _ => by simp [nodesL]
  | t :: ts, d, h => by
    have h1 := h t (by simp)
    have h2 := nodesL_bound ts d fun t ht => h t (by simp [ht])
    simp only [nodesL, List.length_cons, Nat.add_mul]
    omega

theorem depthL_mem : ∀ {ts : List Tree} {t : Tree}, t ∈ ts → 1 + t.depth ≤ depthL ts
  | s :: ts, t, h => by
    simp only [depthL]
    rcases List.mem_cons.1 h with rfl | h
    · omega
    · have := depthL_mem h
      omega

theorem gen_nodes {n : Nat} : ∀ (t : Tree) (d : Nat), t.all (nodeG n) = true → t.depth ≤ d → t.nodes ≤ maxNodes d := by
  refine Tree.ind fun op name ts ih d ha hd => ?_
  obtain ⟨h1, h2⟩ := all_self ha
  have h3 : ts.length ≤ 3 := nodeG_args h1
  simp only [Tree.depth] at hd
  simp only [Tree.nodes]
  cases d with
  | zero =>
    cases ts with
    | nil => simp [nodesL, maxNodes]
    | cons t ts => simp only [depthL] at hd; omega
  | succ d =>
    have h4 := nodesL_bound ts (maxNodes d) fun t ht => ih t ht d (allL_mem h2 t ht) (by have := depthL_mem ht; omega)
    have h5 : ts.length * maxNodes d ≤ 3 * maxNodes d := Nat.mul_le_mul_right _ h3
    simp only [maxNodes]
    omega

theorem letter_name (m : Nat) (h : m < 26) : vn (letter m) = true := by
  have : ∀ m, m < 26 → vn (letter m) = true := by decide
  exact this m h
theorem letter_size (m : Nat) : (letter m).size = 1 := rfl
theorem letter_inj {a b : Nat} (ha : a < 26) (hb : b < 26) (h : letter a = letter b) : a = b := by
  have h1 : UInt8.ofNat (97 + a) = UInt8.ofNat (97 + b) := by
    unfold letter at h
    simpa using h
  have h2 := congrArg UInt8.toNat h1
  simp only [UInt8.toNat_ofNat'] at h2
  omega
end Go.Proofs.YtpiiadmjddikfaaDoor
