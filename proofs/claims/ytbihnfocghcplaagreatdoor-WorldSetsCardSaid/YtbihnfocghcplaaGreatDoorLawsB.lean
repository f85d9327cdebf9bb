/- What the laws on values share: the values of nodes, Eval in the walk, formulas in boxes. -/
import Derived.Test.YtbihnfocghcplaaGreatDoorRelT
import Derived.Test.YtbihnfocghcplaaGreatDoorAwake2
import Derived.Test.YtbihnfocghcplaaGreatDoorValue2
import Derived.Test.YtbihnfocghcplaaGreatDoorNew
namespace Go.Proofs.YtbihnfocghcplaaGreatDoor
set_option linter.unusedVariables false
set_option linter.unusedSimpArgs false
open Go Go.RowKit

theorem wellF_node {op : Int} {ts : List Tree} (hk : kindB (.node op ⟨#[]⟩ ts) = true) (ho : op ≠ 3) (h : ∀ t ∈ ts, wellF t = true) : wellF (.node op ⟨#[]⟩ ts) = true := by
  have hn : nameB (.node op ⟨#[]⟩ ts) = true := by
    unfold nameB
    rw [if_neg (show ¬ (Tree.node op ⟨#[]⟩ ts).op = 3 from ho)]
    rfl
  have h1 : allL (fun t => kindB t && nameB t) ts = true := by
    clear hk hn
    induction ts with
    | nil => rfl
    | cons t ts ih => simp only [allL, Bool.and_eq_true]; exact ⟨h t (by simp), ih fun x hx => h x (by simp [hx])⟩
  show (kindB _ && nameB _ && allL _ ts) = true
  rw [hk, hn, h1]
  rfl
theorem wellF_gen {n : Nat} {t : Tree} (h : t.all (nodeG n) = true) : wellF t = true := all_imp (fun t ht => by rw [nodeG_kind ht, nodeG_name ht]; rfl) t h

theorem evalB_well {t : Tree} (h : wellF t = true) (y : List ByteArray) : evalB t y = valueB (inB y) t := by unfold evalB; rw [h, Bool.true_and]
theorem ev4 {f : Tree} (hf : wellF f = true) : wellF (.node 4 ⟨#[]⟩ [f]) = true ∧ ∀ y, evalB (.node 4 ⟨#[]⟩ [f]) y = !evalB f y := by
  have h : wellF (.node 4 ⟨#[]⟩ [f]) = true := wellF_node rfl (by decide) (by simpa using hf)
  refine ⟨h, fun y => ?_⟩
  rw [evalB_well h, evalB_well hf]
  simp [valueB, valuesB]
theorem ev5 {f g : Tree} (hf : wellF f = true) (hg : wellF g = true) : wellF (.node 5 ⟨#[]⟩ [f, g]) = true ∧ ∀ y, evalB (.node 5 ⟨#[]⟩ [f, g]) y = (evalB f y && evalB g y) := by
  have h : wellF (.node 5 ⟨#[]⟩ [f, g]) = true := wellF_node rfl (by decide) (by simp [hf, hg])
  refine ⟨h, fun y => ?_⟩
  rw [evalB_well h, evalB_well hf, evalB_well hg]
  simp [valueB, valuesB]
theorem ev6 {f g : Tree} (hf : wellF f = true) (hg : wellF g = true) : wellF (.node 6 ⟨#[]⟩ [f, g]) = true ∧ ∀ y, evalB (.node 6 ⟨#[]⟩ [f, g]) y = (evalB f y || evalB g y) := by
  have h : wellF (.node 6 ⟨#[]⟩ [f, g]) = true := wellF_node rfl (by decide) (by simp [hf, hg])
  refine ⟨h, fun y => ?_⟩
  rw [evalB_well h, evalB_well hf, evalB_well hg]
  simp [valueB, valuesB]
theorem ev7 {f g : Tree} (hf : wellF f = true) (hg : wellF g = true) : wellF (.node 7 ⟨#[]⟩ [f, g]) = true ∧ ∀ y, evalB (.node 7 ⟨#[]⟩ [f, g]) y = (!evalB f y || evalB g y) := by
  have h : wellF (.node 7 ⟨#[]⟩ [f, g]) = true := wellF_node rfl (by decide) (by simp [hf, hg])
  refine ⟨h, fun y => ?_⟩
  rw [evalB_well h, evalB_well hf, evalB_well hg]
  simp [valueB, valuesB]
theorem ev8 {f g : Tree} (hf : wellF f = true) (hg : wellF g = true) : wellF (.node 8 ⟨#[]⟩ [f, g]) = true ∧ ∀ y, evalB (.node 8 ⟨#[]⟩ [f, g]) y = (evalB f y == evalB g y) := by
  have h : wellF (.node 8 ⟨#[]⟩ [f, g]) = true := wellF_node rfl (by decide) (by simp [hf, hg])
  refine ⟨h, fun y => ?_⟩
  rw [evalB_well h, evalB_well hf, evalB_well hg]
  simp [valueB, valuesB]

/-- Every block. -/
def anyS : Nat → Prop := fun b => (none : Option Nat) ≠ some b
theorem anyS_all (b : Nat) : anyS b := fun e => by cases e

/-- Eval in the walk. -/
theorem rel_eval {W w : World} (hC : Ext W w) {t : Tree} {v : Value} (hv : FormAt w none v t) {ya : Option Addr} {yc : Nat} {yes : List ByteArray} (hn : yes.length ≤ 1000000) (hy : StrsIn W (fun _ => True) ya yes) {b : Bool} (hb : evalB t yes = b) :
    Calls Tryz.prog 14 #[v, .slice ya yes.length yc] w fun e w'' => ∃ u, e = .returned u ∧ Ext W w'' ∧ Grows w w'' ∧ isB b u w'' :=
  rel_call hC ((eval_any t v ya yc yes hn w hv (StrsIn.go hy hC)).mono fun _ _ ⟨he, hbl⟩ => ⟨_, he, by rw [hb]; rfl, hbl⟩)
theorem ext_cell {W : World} {b o : Nat} {v : Value} (h : W.cell? ⟨b, o, none⟩ = some v) : ∀ w, Ext W w → w.cell? ⟨b, o, none⟩ = some v := fun w hw => Ext.cell h ⟨w, hw⟩

/-- A box with a formula, beside the reader's block b. -/
structure FBox (w : World) (b p : Nat) (o : Int) (s : ByteArray) (a : Option Addr) (n c : Nat) (t : Tree) : Prop where
  ne : p ≠ b
  blk : w.heap[p]? = some (.cells #[.int .i64 o, .string s, .slice a n c] 24 (0, 0))
  form : FormAt w (some b) (.agg #[.int .i64 o, .string s, .slice a n c]) t
theorem FBox.kept {w w' : World} {b p : Nat} {o : Int} {s : ByteArray} {a : Option Addr} {n c : Nat} {t : Tree} (h : FBox w b p o s a n c t) (hg : w.grownBy w' (some b)) : FBox w' b p o s a n c t :=
  ⟨h.ne, by rw [hg.block p (lt_of_block h.blk) (fun e => h.ne (by injection e))]; exact h.blk, FormAt.kept h.form hg⟩
theorem FBox.go {w w' : World} {b p : Nat} {o : Int} {s : ByteArray} {a : Option Addr} {n c : Nat} {t : Tree} (h : FBox w b p o s a n c t) (hb : Below w.heap.size w w') : FBox w' b p o s a n c t := h.kept (only_of_below hb _)
end Go.Proofs.YtbihnfocghcplaaGreatDoor
