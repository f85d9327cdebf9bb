/- Components: for every graph whose components the order's own search can list. -/
import Derived.Test.YtfiaoibfejginaaDoorG0I
namespace Go.Proofs.YtfiaoibfejginaaDoor
set_option linter.unusedVariables false
set_option linter.unusedSimpArgs false
open Go Go.RowKit Go.Sort
theorem infoLL : (Tryd.prog.info? 25).map (fun i => (i.zero, i.size, i.bytes)) = some (some (.slice none 0 0), 1, 24) := by kernel_rfl
theorem elemLL : ElemOf 31 25 1 24 := elem_of Tryd.underlying31 infoLL rfl (by decide) (by decide)
/-- A list of lists that the call owns, its lists too. -/
def OwnLL (w : World) (B : Nat) (v : Value) (zss : List (List Int)) : Prop := ∃ vals : List Value, w.ownsRow B 25 1 v zss.length vals ∧ vals.length = zss.length ∧ ∀ i (h : i < zss.length), ∃ u, vals[i]? = some u ∧ OwnI w B u zss[i]
theorem OwnLL.nil (w : World) (B : Nat) : OwnLL w B (.slice none 0 0) [] := ⟨[], World.ownsRow_nil w B _ _, rfl, fun i h => by cases h⟩
theorem OwnLL.go {w w' : World} {B : Nat} {v : Value} {zss : List (List Int)} (h : OwnLL w B v zss) (hb : Below w.heap.size w w') : OwnLL w' B v zss := by
  obtain ⟨vals, h1, h2, h3⟩ := h
  refine ⟨vals, owns_kept h1 fun g e => hb.block g (owns_blk h1 g e).2, h2, fun i hi => ?_⟩
  obtain ⟨u, hu, ho⟩ := h3 i hi
  exact ⟨u, hu, ho.go hb⟩
theorem OwnLL.ll {w : World} {B : Nat} {v : Value} {zss : List (List Int)} (h : OwnLL w B v zss) : LL w v zss := by
  obtain ⟨vals, h1, h2, h3⟩ := h
  rcases h1.2 with ⟨rfl, h0⟩ | ⟨g, cap, cur, rfl, hB, hg, hnc, hcm, -, -⟩
  · exact .inl ⟨rfl, List.eq_nil_of_length_eq_zero h0⟩
  · refine .inr ⟨g, 0, cap, rfl, hnc, hcm, lt_of_block hg, fun i hi => ?_⟩
    obtain ⟨u, hu, ho⟩ := h3 i hi
    rw [Nat.zero_add]
    exact ⟨u, owns_cell h1 rfl i u hu, ho.il⟩
/-- The row's block is none of its lists' blocks: they hold other things. -/
theorem blk_types {w : World} {B B' : Nat} {e e' : TypeId} {k k' : Nat} {v v' : Value} {n n' : Nat} {xs xs' : List Value} (h : w.ownsRow B e k v n xs) (h' : w.ownsRow B' e' k' v' n' xs') (hne : e ≠ e') {g : Nat} (hg : v.ownBlock = some g) (hg' : v'.ownBlock = some g) : False := by
  rcases h.2 with ⟨rfl, -⟩ | ⟨b, cap, cur, rfl, -, hb, -⟩
  · cases hg
  · rcases h'.2 with ⟨rfl, -⟩ | ⟨b', cap', cur', rfl, -, hb', -⟩
    · cases hg'
    · have e1 : b = g := by injection hg
      have e2 : b' = g := by injection hg'
      subst e1 e2
      rw [hb] at hb'
      injection hb' with hb'
      injection hb' with _ ht
      exact hne ht
theorem OwnLL.app {w w8 : World} {B : Nat} {v v8 u : Value} {zss : List (List Int)} {z : List Int} (h : OwnLL w B v zss) (hz : OwnI w B u z) (vals : List Value) (hv : w.ownsRow B 25 1 v zss.length vals) (hvl : vals.length = zss.length) (hvs : ∀ i (h : i < zss.length), ∃ u, vals[i]? = some u ∧ OwnI w B u zss[i])
    (hown : w8.ownsRow B 25 1 v8 (zss.length + 1) (vals ++ [u])) (hg : w.grownBy w8 v.ownBlock) : OwnLL w8 B v8 (zss ++ [z]) := by
  have hk : ∀ u z, OwnI w B u z → OwnI w8 B u z := fun u z ho => owns_kept ho fun g e => hg.block g (owns_blk ho g e).2 (fun e2 => blk_types hv ho (by decide) e2.symm e)
  refine ⟨vals ++ [u], by rw [List.length_append]; exact hown, by rw [List.length_append, List.length_append, hvl]; rfl, fun i hi => ?_⟩
  by_cases hi' : i < zss.length
  · obtain ⟨u', hu', ho'⟩ := hvs i hi'
    refine ⟨u', by rw [List.getElem?_append_left (by omega)]; exact hu', ?_⟩
    rw [List.getElem_append_left hi']
    exact hk _ _ ho'
  · have e : i = zss.length := by rw [List.length_append] at hi; simp at hi; omega
    subst e
    refine ⟨u, by rw [List.getElem?_append_right (by omega), hvl, Nat.sub_self]; rfl, ?_⟩
    rw [List.getElem_append_right (Nat.le_refl _)]
    simp only [Nat.sub_self, List.getElem_cons_zero]
    exact hk _ _ hz

namespace Own
end Own
end Go.Proofs.YtfiaoibfejginaaDoor
