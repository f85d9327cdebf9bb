/- Sorting the chapter's two attacks. -/
import Derived.Test.YtplkkkkcmfgkfaaGreatA9z
import Derived.Test.YtplkkkkcmfgkfaaGreatA9q
namespace Go.Proofs.YtplkkkkcmfgkfaaGreat
set_option linter.unusedVariables false
set_option linter.unusedSimpArgs false
open Go Go.RowKit Go.Sort

def attA : List Value := [.int .i64 1, .int .i64 0, .int .i64 0, .int .i64 1, .int .i64 0, .int .i64 1, .int .i64 1, .int .i64 1]
def attB : List Value := [.int .i64 0, .int .i64 1, .int .i64 1, .int .i64 1, .int .i64 1, .int .i64 0, .int .i64 0, .int .i64 1]
/-- The two attacks: false stands for the one on the first argument. -/
def encB (b : Bool) : List Value := if b then [.int .i64 0, .int .i64 1, .int .i64 1, .int .i64 1] else [.int .i64 1, .int .i64 0, .int .i64 0, .int .i64 1]
def cmpB (x y : Bool) : Int := if x == y then 0 else if x then -1 else 1
theorem encB_len (x : Bool) : (encB x).length = 4 := by cases x <;> rfl
theorem encB_one : ∀ x, ∀ v ∈ encB x, v.oneCell' = true := fun x => by cases x <;> exact one_of (by rfl)
theorem swoB : Sort.SWO (ltOf cmpB) where
  irrefl x := by cases x <;> decide
  trans x y z h k := by cases x <;> cases y <;> cases z <;> revert h k <;> decide
  ntrans x y z h k := by cases x <;> cases y <;> cases z <;> revert h k <;> decide
theorem totB (x y : Bool) (h : ltOf cmpB x y = false) (k : ltOf cmpB y x = false) : x = y := by cases x <;> cases y <;> first | rfl | (exact absurd h (by decide)) | (exact absurd k (by decide))
theorem layB (blk off size : Nat) (w : World) : CmpLays Tryz.prog 32 #[] encB 4 cmpB blk off size w := by
  intro m os dk hs x y
  cases x <;> cases y <;> exact cmpAtt_any _ _ _ _ _ _ _ _ _
theorem aggA (w : World) : (isAgg 28).run Tryz.prog w = .ok true w := Tryz.isAgg28 w
theorem sizeA (w : World) : (Go.sizeOf 28).run Tryz.prog w = .ok 4 w := Tryz.sizeOf28 w
theorem flatA : flatK encB 4 #[false, true] = attA.toArray := by kernel_rfl
theorem flatB : flatK encB 4 #[true, false] = attB.toArray := by kernel_rfl
theorem mergeB : ([false, true].mergeSort fun x y => !(ltOf cmpB) y x) = [true, false] := by
  have hp := List.mergeSort_perm [false, true] (fun x y => !(ltOf cmpB) y x)
  have hs := List.pairwise_mergeSort (le := fun x y => !(ltOf cmpB) y x) (fun a b c h k => by cases a <;> cases b <;> cases c <;> revert h k <;> decide) (fun a b => by cases a <;> cases b <;> decide) [false, true]
  generalize ([false, true].mergeSort fun x y => !(ltOf cmpB) y x) = l at hp hs
  match l, hp, hs with
  | [a, b], hp, hs =>
    have h1 := hp.count_eq true
    have h2 : (!(ltOf cmpB) b a) = true := by simpa using hs
    cases a <;> cases b <;> revert h1 h2 <;> decide
  | [], hp, _ => exact absurd hp.length_eq (by decide)
  | [_], hp, _ => exact absurd hp.length_eq (by simp)
  | _ :: _ :: _ :: _, hp, _ => exact absurd hp.length_eq (by simp)

/-- The block's first cells are these, and none of them is frozen. -/
def RW (w : World) (b : Nat) (vs : List Value) : Prop := b < w.heap.size ∧ ∀ j u, vs[j]? = some u → w.cell? ⟨b, j, none⟩ = some u ∧ w.frozen? ⟨b, j, none⟩ = false
theorem RW.go {w w' : World} {b : Nat} {vs : List Value} (h : RW w b vs) (hb : Below w.heap.size w w') : RW w' b vs :=
  ⟨Nat.lt_of_lt_of_le h.1 hb.size, fun j u hj => by
    have e := hb.block b h.1
    rw [World.cell?_of_block (w := w) (w' := w') (a := ⟨b, j, none⟩) e, World.frozen?_of_block (w := w) (w' := w') (a := ⟨b, j, none⟩) e]
    exact h.2 j u hj⟩
theorem holds_of_list {w : World} {g : Nat} {l : List Value} (h : ∀ j u, l[j]? = some u → w.cell? ⟨g, j, none⟩ = some u ∧ w.frozen? ⟨g, j, none⟩ = false) : Holds id w g 0 l.toArray := fun j hj => by
  have hj' : j < l.length := by simpa using hj
  have := h j l[j] (List.getElem?_eq_getElem hj')
  rw [Nat.zero_add]
  simpa [hj'] using this
theorem list_of_holds {w : World} {g : Nat} {l : List Value} (h : Holds id w g 0 l.toArray) : ∀ j u, l[j]? = some u → w.cell? ⟨g, j, none⟩ = some u ∧ w.frozen? ⟨g, j, none⟩ = false := fun j u hu => by
  have hj : j < l.length := by
    rcases Nat.lt_or_ge j l.length with h1 | h1
    · exact h1
    · rw [List.getElem?_eq_none h1] at hu; cases hu
  have h2 := h j (by simpa using hj)
  rw [Nat.zero_add] at h2
  rw [List.getElem?_eq_getElem hj] at hu
  injection hu with hu
  subst hu
  simpa [hj] using h2

theorem sort_two (B g cap : Nat) (w : World) (h : OwnAt w B (.slice (some ⟨g, 0, none⟩) 2 cap) 2 attA) :
    Calls Tryz.prog 31 #[.slice (some ⟨g, 0, none⟩) 2 cap, .func (Fn.func 32) #[] #[]] w fun e w' => e = .returned (.tuple #[]) ∧ RW w' g attB ∧ Below B w w' := by
  have hb := owns_blk h g rfl
  have hfr : ∀ k, w.frozen? ⟨g, k, none⟩ = false := by
    rcases h.2 with ⟨h0, -⟩ | ⟨g', cap', cur, hv, -, hg, -⟩
    · cases h0
    · injection hv with hv
      injection hv with hv
      injection hv with hv
      subst hv
      exact free_any hg
  have hH : HoldsK encB 4 w g 0 #[false, true] := by
    show Holds id w g 0 _
    rw [flatA]
    exact holds_of_list fun j u hu => ⟨owns_cell h rfl j u hu, hfr j⟩
  have eg : ∀ args w, (callFunc 32 args).run Tryz.prog w = .ok (.enter 32 args) w := enters_of Tryz.func32 (by kernel_rfl) rfl
  refine (AnyQ.slices_SortFunc_total Tryz.sortA 4 aggA sizeA encB encB_len encB_one cmpB swoB 32 #[] g 0 cap #[false, true] w eg (layB g 0 _ w) hH hb.2 (by decide) totB).mono ?_
  rintro e w' ⟨he, n, os, rfl⟩
  rw [show (#[false, true] : Array Bool).toList = [false, true] from rfl, mergeB]
  have hs : ([true, false].toArray : Array Bool).size = (#[false, true] : Array Bool).size := rfl
  have hp := holdsK_putRowK encB 4 (Sort.ahead w n) g 0 #[false, true] [true, false].toArray (holdsK_ahead encB 4 w n g 0 _ hH) hs
  have hlt : g < (putRowK encB 4 (Sort.ahead w n) g 0 [true, false].toArray).heap.size := by simpa [putRowK] using hb.2
  have hbl : Below B w (putRowK encB 4 (Sort.ahead w n) g 0 [true, false].toArray) := (below_ahead (Below.refl B w) n).trans ⟨rfl, rfl, rfl, by simp [putRowK], fun k hk => by
    show ((Sort.ahead w n).heap.modify g _)[k]? = _
    rw [Array.getElem?_modify, if_neg (by have := hb.1; omega)]⟩
  refine ⟨he, ⟨?_, ?_⟩, below_grown hbl (by have h1 := hb.1; have h2 := hb.2; omega) os⟩
  · exact Nat.lt_of_lt_of_le hlt (below_grow _ os).size
  · have := holdsK_grow encB 4 _ os g 0 _ hlt hp
    have h2 : Holds id (Sort.grow (putRowK encB 4 (Sort.ahead w n) g 0 [true, false].toArray) os) g 0 (flatK encB 4 #[true, false]) := this
    rw [flatB] at h2
    exact list_of_holds h2
end Go.Proofs.YtplkkkkcmfgkfaaGreat
