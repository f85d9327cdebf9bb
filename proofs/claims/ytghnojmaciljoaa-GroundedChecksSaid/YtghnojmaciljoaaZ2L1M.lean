/- The law LabellingLattice: for every list of numbers it answers true. -/
import Derived.Test.YtghnojmaciljoaaZ2D
import Derived.Test.YtghnojmaciljoaaNew

namespace Go.Proofs.Ytghnojmaciljoaa
set_option linter.unusedVariables false
set_option linter.unusedSimpArgs false
open Go Go.RowKit Go.Sort

theorem OwnI.read {w w' : World} {B b : Nat} {v : Value} {zs : List Int} (h : OwnI w B v zs) (hg : w.grownBy w' (some b)) (hb : b < B) : OwnI w' B v zs :=
  owns_kept h fun g e => hg.block g (owns_blk h g e).2 (fun e2 => by injection e2 with e2; have := (owns_blk h g e).1; omega)
theorem below_read {w a a' : World} {b : Nat} (h : Below b w a) (hg : a.grownBy a' (some b)) (hna : b ≤ a.heap.size) : Below b w a' := below_app5 h hg (fun g e => by injection e with e; omega) hna

theorem less_self (a : List Int) : lessF a a = true := lessF_iff.2 ⟨rfl, fun _ _ _ _ => rfl⟩
theorem meet_less1 {a b : List Int} (h : a.length = b.length) : lessF (meetF a b) a = true := by
  have hl := meetF_len a b
  refine lessF_iff.2 ⟨by omega, fun i h1 h2 h3 => ?_⟩
  rw [meetF_get a b i h1 h2 (by omega)] at h3 ⊢
  by_cases e : a[i] = b[i]'(by omega)
  · rw [if_pos e]
  · rw [if_neg e] at h3; omega
theorem meet_less2 {a b : List Int} (h : a.length = b.length) : lessF (meetF a b) b = true := by
  have hl := meetF_len a b
  refine lessF_iff.2 ⟨by omega, fun i h1 h2 h3 => ?_⟩
  rw [meetF_get a b i h1 (by omega) h2] at h3 ⊢
  by_cases e : a[i]'(by omega) = b[i]
  · rw [if_pos e]; exact e.symm
  · rw [if_neg e] at h3; omega
theorem less_trans {a b c : List Int} (h1 : lessF a b = true) (h2 : lessF b c = true) : lessF a c = true := by
  rw [lessF_iff] at *
  refine ⟨h1.1.trans h2.1, fun i a1 a2 h => ?_⟩
  have e1 := h1.2 i a1 (by omega) h
  have e2 := h2.2 i (by omega) a2 (by rw [e1]; exact h)
  rw [e2, e1]
theorem less_meet {a b c : List Int} (h1 : lessF c a = true) (h2 : lessF c b = true) : lessF c (meetF a b) = true := by
  rw [lessF_iff] at *
  have hl := meetF_len a b
  refine ⟨by omega, fun i a1 a2 h => ?_⟩
  have e1 := h1.2 i a1 (by omega) h
  have e2 := h2.2 i a1 (by omega) h
  rw [meetF_get a b i a2 (by omega) (by omega), e1, e2, if_pos rfl]
theorem less_antisymm {a b : List Int} (ha : LabOk a) (hb : LabOk b) (hl : a.length = b.length) : (lessF a b && lessF b a) = decide (a = b) := by
  rw [Bool.eq_iff_iff, Bool.and_eq_true, decide_eq_true_eq]
  constructor
  · rintro ⟨h1, h2⟩
    rw [lessF_iff] at h1 h2
    refine List.ext_getElem hl fun i i1 i2 => ?_
    have x1 := ha a[i] (List.getElem_mem _)
    have x2 := hb b[i] (List.getElem_mem _)
    have e1 := h1.2 i i1 i2
    have e2 := h2.2 i i2 i1
    by_cases e : a[i] = 1 ∨ a[i] = 2
    · exact (e1 e).symm
    · by_cases f : b[i] = 1 ∨ b[i] = 2
      · exact e2 f
      · omega
  · rintro rfl
    exact ⟨less_self _, less_self _⟩

/-- What the calls of LessCommitted answer, in every world that has grown from one. -/
abbrev LessC (w : World) (v1 v2 : Value) (r : Bool) : Prop := ∀ wx : World, Below w.heap.size w wx → Calls Try.prog 23 #[v1, v2] wx fun e w' => e = .returned (.bool r) ∧ Below wx.heap.size wx w'
theorem LessC.mk {w : World} {v1 v2 : Value} {xs ys : List Int} (h1 : IL w v1 xs) (h2 : IL w v2 ys) (hn : xs.length ≤ 1000) (hm : ys.length ≤ 1000) : LessC w v1 v2 (lessF xs ys) :=
  fun wx hb => lLess_any v1 v2 xs ys wx (h1.below hb) (h2.below hb) (by omega) (by omega)

end Go.Proofs.Ytghnojmaciljoaa
