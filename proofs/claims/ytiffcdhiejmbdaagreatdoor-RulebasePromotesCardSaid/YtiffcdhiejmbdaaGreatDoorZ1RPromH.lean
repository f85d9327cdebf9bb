/- For the law RulebasePromotes: rule bases of moderate size, rows of three, relations. -/
import Derived.Test.YtiffcdhiejmbdaaGreatDoorZ1Y
import Derived.Test.YtiffcdhiejmbdaaGreatDoorZ1K7a
import Derived.Test.YtiffcdhiejmbdaaGreatDoorZ1R
import Derived.Test.YtiffcdhiejmbdaaGreatDoorZ1S
import Derived.Test.YtiffcdhiejmbdaaGreatDoorZ1Small5
import Derived.Test.YtiffcdhiejmbdaaGreatDoorZ1N
import Derived.Test.YtiffcdhiejmbdaaGreatDoorZ1G
import Derived.Test.YtiffcdhiejmbdaaGreatDoorZ1R5same

namespace Go.Proofs.YtiffcdhiejmbdaaGreatDoor
set_option linter.unusedVariables false
set_option linter.unusedSimpArgs false
open Go Go.RowKit

/-- The reference's Same, as an exact answer. -/
theorem r5same_is (b c : Bs) (v u : Value) (w : World) (hv : BaseAt w v b) (hu : BaseAt w u c) :
    Calls Tryz.prog 29 #[v, u] w fun e w' => e = .returned (.bool (decide (b = c))) ∧ Below w.heap.size w w' :=
  (r5same_any b c v u w hv hu).mono fun e w' ⟨⟨r, he, hr⟩, hb⟩ => ⟨by
    rw [he]
    cases r
    · rw [decide_eq_false (fun h => by have := hr.2 h; cases this)]
    · rw [decide_eq_true (hr.1 rfl)], hb⟩

/-- Not too big for any of the functions. -/
def Sm5 (x : Bs) : Prop := x.prems.length ≤ 1000 ∧ x.rules.length ≤ 1000 ∧ x.proms.length ≤ 1000 ∧ ∀ r ∈ x.rules, r.body.length ≤ 1000
theorem Sm5.prom {x : Bs} (xs : List Lt) (h : Sm5 x) : Sm5 (promB x xs) := by
  refine ⟨h.1, by show (x.rules.map _).length ≤ _; rw [List.length_map]; exact h.2.1, h.2.2.1, fun r hr => ?_⟩
  obtain ⟨r0, h0, rfl⟩ := List.mem_map.1 hr
  rw [promR_body]
  exact h.2.2.2 r0 h0
/-- Number k of the row's rule bases, of moderate size. -/
def BaseSm (W : World) (b nb k : Nat) : Prop := ∃ (a1 a2 a3 : Option Addr) (c1 c2 c3 : Nat) (x : Bs), W.cell? ⟨nb, k * 3, none⟩ = some (.slice a1 x.prems.length c1) ∧ W.cell? ⟨nb, k * 3 + 1, none⟩ = some (.slice a2 x.rules.length c2) ∧ W.cell? ⟨nb, k * 3 + 2, none⟩ = some (.slice a3 x.proms.length c3) ∧ BsOk x ∧ Sm5 x ∧
  ∀ wx, W.grownBy wx (some b) → BaseAt wx (.agg #[.slice a1 x.prems.length c1, .slice a2 x.rules.length c2, .slice a3 x.proms.length c3]) x
theorem baseSm_own {W : World} {b nb k L : Nat} {cs : Array Value} {t : TypeId} {p r q : Value} {x : Bs} (h : W.heap[nb]? = some (.cells cs t (0, 0))) (h0 : cs[k * 3]? = some p) (h1 : cs[k * 3 + 1]? = some r) (h2 : cs[k * 3 + 2]? = some q) (hx : BaseOwn W L (.agg #[p, r, q]) x) (hL : b < L) (hok : BsOk x) (hs : Sm5 x) : BaseSm W b nb k := by
  obtain ⟨a1, a2, a3, c1, c2, c3, e, -⟩ := hx.at_.form
  injection e with e
  simp only [Array.mk.injEq, List.cons.injEq, and_true] at e
  obtain ⟨rfl, rfl, rfl⟩ := e
  exact ⟨a1, a2, a3, c1, c2, c3, x, cell_of5 h h0, cell_of5 h h1, cell_of5 h h2, hok, hs, fun wx hg => (hx.grown hg (fun g e => by injection e with e; omega)).at_⟩
theorem baseSm_old {W0 W : World} {b nb k : Nat} {cs : Array Value} {t : TypeId} {p r q : Value} {x : Bs} (h : W.heap[nb]? = some (.cells cs t (0, 0))) (h0 : cs[k * 3]? = some p) (h1 : cs[k * 3 + 1]? = some r) (h2 : cs[k * 3 + 2]? = some q) (hx : BaseAt W0 (.agg #[p, r, q]) x) (hB : Below W0.heap.size W0 W) (hb : W0.heap.size ≤ b) (hok : BsOk x) (hs : Sm5 x) : BaseSm W b nb k := by
  obtain ⟨a1, a2, a3, c1, c2, c3, e, -⟩ := hx.form
  injection e with e
  simp only [Array.mk.injEq, List.cons.injEq, and_true] at e
  obtain ⟨rfl, rfl, rfl⟩ := e
  exact ⟨a1, a2, a3, c1, c2, c3, x, cell_of5 h h0, cell_of5 h h1, cell_of5 h h2, hok, hs, fun wx hg => hx.below (below_app5 hB hg (fun g e => by injection e with e; omega) hB.size)⟩
/-- Number j of a row of lists. -/
def ListSm (W : World) (b nl j : Nat) : Prop := ∃ (a : Option Addr) (c : Nat) (ys : List Lt), W.cell? ⟨nl, j, none⟩ = some (.slice a ys.length c) ∧ Short ys ∧ ys.length ≤ 1000 ∧ ∀ wx, W.grownBy wx (some b) → BodyAt wx (.slice a ys.length c) ys

theorem short_letters {n : Nat} {xs : List Lt} (h : Letters n xs) : Short xs := fun x hx => by
  obtain ⟨m, -, e⟩ := h x hx
  rw [e]
  have h1 : (letter m).size = 1 := rfl
  rw [h1]
  unfold maxLen
  omega

theorem bprom_sm {x : Bs} {ys : List Lt} {v u : Value} {w : World} (hok : BsOk x) (hs : Sm5 x) (hy : Short ys) (hl : ys.length ≤ 1000) (hv : BaseAt w v x) (hu : BodyAt w u ys) :
    Calls Tryz.prog 36 #[v, u] w fun e w' => ∃ v', e = .returned v' ∧ BaseAt w' v' (promB x ys) ∧ Below w.heap.size w w' :=
  bpromote_any x hok ys hy v u w hv hu (by omega) (by have := hs.2.1; omega) (by have := hs.1; omega) (by have := hs.2.2.1; omega) fun r hr => by have := hs.2.2.2 r hr; omega
theorem rprom_sm {x : Bs} {ys : List Lt} {v u : Value} {w : World} (hs : Sm5 x) (hl : ys.length ≤ 1000) (hv : BaseAt w v x) (hu : BodyAt w u ys) :
    Calls Tryz.prog 37 #[v, u] w fun e w' => ∃ v', e = .returned v' ∧ BaseAt w' v' (promB x ys) ∧ Below w.heap.size w w' :=
  r5Promote_any x ys v u w hv hu (by omega) (by have := hs.1; omega) (by have := hs.2.1; omega) (by have := hs.2.2.1; omega) fun r hr => by have := hs.2.2.2 r hr; omega

namespace Own
/-- This rule base, wherever its parts lie. -/
def isBs (x : Bs) : Value → World → Prop := fun v w => BaseAt w v x
theorem isBs_up (x : Bs) : GoesUp (isBs x) := fun _ _ _ hg h => BaseAt.below h hg
/-- A new row of three rule bases, the last one spoilt. -/
def isThreeB (L b N M : Nat) (p0 r0 q0 p1 r1 q1 : Value) : Value → World → Prop := fun v w => ∃ (nb : Nat) (p2 r2 q2 : Value), v = .slice (some ⟨nb, 0, none⟩) 3 3 ∧ nb ≠ b ∧ w.heap[nb]? = some (.cells #[p0, r0, q0, p1, r1, q1, p2, r2, q2] 26 (0, 0)) ∧ isSpB L b N M (.agg #[p2, r2, q2]) w
theorem isThreeB_up (L b N M : Nat) (p0 r0 q0 p1 r1 q1 : Value) : UpB b (isThreeB L b N M p0 r0 q0 p1 r1 q1) := fun v w w' hg ⟨nb, p2, r2, q2, h1, h2, h3, h4⟩ => ⟨nb, p2, r2, q2, h1, h2, keptB hg h2 h3, isSpB_up L b N M _ w w' hg h4⟩
theorem threeB {W w : World} {B b L N M : Nat} {zs : List Int} {p0 r0 q0 p1 r1 q1 p2 r2 q2 : Value} (hC : CB W B b zs w) (h2 : isSpB L b N M (.agg #[p2, r2, q2]) w) :
    CB W B b zs (w.alloc (.cells #[p0, r0, q0, p1, r1, q1, p2, r2, q2] 26)) ∧ GB b w (w.alloc (.cells #[p0, r0, q0, p1, r1, q1, p2, r2, q2] 26)) ∧
      relR (rA (isThreeB L b N M p0 r0 q0 p1 r1 q1)) w (.slice (some ⟨w.heap.size, 0, none⟩) 3 3) (w.alloc (.cells #[p0, r0, q0, p1, r1, q1, p2, r2, q2] 26)) := by
  obtain ⟨q, hq⟩ := hC.2
  have hg := only_of_below (bgrow w (.cells #[p0, r0, q0, p1, r1, q1, p2, r2, q2] 26)) (some b)
  exact ⟨hC.grown (bgrow w _), hg, ⟨_, p2, r2, q2, rfl, by have := hq.lt; omega, heap_alloc_new _ _, isSpB_up _ _ _ _ _ _ _ hg h2⟩, fun h => by cases h⟩
end Own
end Go.Proofs.YtiffcdhiejmbdaaGreatDoor
