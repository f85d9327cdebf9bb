/- Several rule bases in one row, as the laws of stage 5 make it (RulebaseValidates). -/
import Derived.Test.YtiffcdhiejmbdaaGreatDoorZ1K6d

namespace Go.Proofs.YtiffcdhiejmbdaaGreatDoor
set_option linter.unusedVariables false
set_option linter.unusedSimpArgs false
open Go Go.RowKit

/-- The cells of a block. -/
theorem cell_of5 {w : World} {b i : Nat} {cs : Array Value} {u : Value} {t : TypeId} (h : w.heap[b]? = some (.cells cs t (0, 0))) (hu : cs[i]? = some u) : w.cell? ⟨b, i, none⟩ = some u := by
  simp [World.cell?, h, hu]
theorem bcell2 {w : World} {b : Nat} {u v : Value} {t : TypeId} (h : w.heap[b]? = some (.cells #[u, v] t (0, 0))) : w.cell? ⟨b, 0, none⟩ = some u ∧ w.cell? ⟨b, 1, none⟩ = some v :=
  ⟨cell_of5 h rfl, cell_of5 h rfl⟩
/-- Number k of the row's rule bases, and what stays of it whatever the reader does. -/
def BaseNo (W : World) (b nb k : Nat) : Prop := ∃ (a1 a2 a3 : Option Addr) (c1 c2 c3 : Nat) (x : Bs), W.cell? ⟨nb, k * 3, none⟩ = some (.slice a1 x.prems.length c1) ∧ W.cell? ⟨nb, k * 3 + 1, none⟩ = some (.slice a2 x.rules.length c2) ∧ W.cell? ⟨nb, k * 3 + 2, none⟩ = some (.slice a3 x.proms.length c3) ∧ BsOk x ∧
  ∀ wx, W.grownBy wx (some b) → BaseAt wx (.agg #[.slice a1 x.prems.length c1, .slice a2 x.rules.length c2, .slice a3 x.proms.length c3]) x
theorem baseNo_own {W : World} {b nb k L : Nat} {cs : Array Value} {t : TypeId} {p r q : Value} {x : Bs} (h : W.heap[nb]? = some (.cells cs t (0, 0))) (h0 : cs[k * 3]? = some p) (h1 : cs[k * 3 + 1]? = some r) (h2 : cs[k * 3 + 2]? = some q) (hx : BaseOwn W L (.agg #[p, r, q]) x) (hL : b < L) (hok : BsOk x) : BaseNo W b nb k := by
  obtain ⟨a1, a2, a3, c1, c2, c3, e, -⟩ := hx.at_.form
  injection e with e
  simp only [Array.mk.injEq, List.cons.injEq, and_true] at e
  obtain ⟨rfl, rfl, rfl⟩ := e
  exact ⟨a1, a2, a3, c1, c2, c3, x, cell_of5 h h0, cell_of5 h h1, cell_of5 h h2, hok, fun wx hg => (hx.grown hg (fun g e => by injection e with e; omega)).at_⟩
theorem baseNo_old {W0 W : World} {b nb k : Nat} {cs : Array Value} {t : TypeId} {p r q : Value} {x : Bs} (h : W.heap[nb]? = some (.cells cs t (0, 0))) (h0 : cs[k * 3]? = some p) (h1 : cs[k * 3 + 1]? = some r) (h2 : cs[k * 3 + 2]? = some q) (hx : BaseAt W0 (.agg #[p, r, q]) x) (hB : Below W0.heap.size W0 W) (hb : W0.heap.size ≤ b) (hok : BsOk x) : BaseNo W b nb k := by
  obtain ⟨a1, a2, a3, c1, c2, c3, e, -⟩ := hx.form
  injection e with e
  simp only [Array.mk.injEq, List.cons.injEq, and_true] at e
  obtain ⟨rfl, rfl, rfl⟩ := e
  exact ⟨a1, a2, a3, c1, c2, c3, x, cell_of5 h h0, cell_of5 h h1, cell_of5 h h2, hok, fun wx hg => hx.below (below_app5 hB hg (fun g e => by injection e with e; omega) hB.size)⟩

namespace Own
/-- A spoilt rule base, its blocks from L on. -/
def isSpB (L b N M : Nat) : Value → World → Prop := fun v w => ∃ bs : Bs, BaseOwn w L v bs ∧ BsOk bs ∧ bs.prems.length ≤ N ∧ bs.rules.length ≤ N ∧ bs.proms.length ≤ N ∧ (∀ r ∈ bs.rules, r.body.length ≤ M) ∧ b < L
theorem isSpB_up (L b N M : Nat) : UpB b (isSpB L b N M) := fun v w w' hg ⟨bs, h1, h2, h3, h4, h5, h6, h7⟩ => ⟨bs, h1.grown hg (fun g e => by injection e with e; omega), h2, h3, h4, h5, h6, h7⟩
theorem callSp {W w : World} {B b L : Nat} {zs : List Int} {v : Value} {bs : Bs} (N M : Nat) (hC : CB W B b zs w) (hv : BaseOwn w L v bs) (hok : BsOk bs) (hN : N ≤ 900) (hM : 6 ≤ M) (hM' : M ≤ 900) (h1 : bs.prems.length ≤ N) (h2 : bs.rules.length ≤ N) (h3 : bs.proms.length ≤ N) (h4 : ∀ r ∈ bs.rules, r.body.length ≤ M) (hb : b < W.heap.size) :
    Calls Tryz.prog 16 #[.pointer (some ⟨b, 0, none⟩), v] w fun e w'' => ∃ u, e = .returned u ∧ CB W B b zs w'' ∧ GB b w w'' ∧ relR (rA (isSpB W.heap.size b (N + 1) (M + 1))) w u w'' := by
  obtain ⟨q, hq⟩ := hC.2
  exact callB hC ((spoiltBase_any bs hok (by omega) (by omega) (by omega) (fun i h => Nat.le_trans (h4 _ (List.getElem_mem h)) (by omega)) v L B b zs q w hq hv).mono fun e w' ⟨v', bs', q', he, ho, hs, hr, hg⟩ =>
    ⟨v', he, ⟨bs', ho.mono hC.1.size, hs.ok, by have := hs.n1; omega, by have := hs.n2; omega, by have := hs.n3; omega, hs.nb M hM h4, hb⟩, ⟨q', hr⟩, hg⟩)
/-- A new row of four rule bases, the last two spoilt. -/
def isFourB (L b N M : Nat) (p0 r0 q0 p1 r1 q1 : Value) : Value → World → Prop := fun v w => ∃ (nb : Nat) (p2 r2 q2 p3 r3 q3 : Value), v = .slice (some ⟨nb, 0, none⟩) 4 4 ∧ nb ≠ b ∧ w.heap[nb]? = some (.cells #[p0, r0, q0, p1, r1, q1, p2, r2, q2, p3, r3, q3] 26 (0, 0)) ∧ isSpB L b N M (.agg #[p2, r2, q2]) w ∧ isSpB L b N M (.agg #[p3, r3, q3]) w
theorem isFourB_up (L b N M : Nat) (p0 r0 q0 p1 r1 q1 : Value) : UpB b (isFourB L b N M p0 r0 q0 p1 r1 q1) := fun v w w' hg ⟨nb, p2, r2, q2, p3, r3, q3, h1, h2, h3, h4, h5⟩ => ⟨nb, p2, r2, q2, p3, r3, q3, h1, h2, keptB hg h2 h3, isSpB_up L b N M _ w w' hg h4, isSpB_up L b N M _ w w' hg h5⟩
theorem isSpB.mono {L b N M N' M' : Nat} {v : Value} {w : World} (h : isSpB L b N M v w) (hN : N ≤ N') (hM : M ≤ M') : isSpB L b N' M' v w := by
  obtain ⟨bs, h1, h2, h3, h4, h5, h6, h7⟩ := h
  exact ⟨bs, h1, h2, by omega, by omega, by omega, fun r hr => Nat.le_trans (h6 r hr) hM, h7⟩
theorem fourB {W w : World} {B b L N M : Nat} {zs : List Int} {p0 r0 q0 p1 r1 q1 p2 r2 q2 p3 r3 q3 : Value} (hC : CB W B b zs w) (h2 : isSpB L b N M (.agg #[p2, r2, q2]) w) (h3 : isSpB L b N M (.agg #[p3, r3, q3]) w) :
    CB W B b zs (w.alloc (.cells #[p0, r0, q0, p1, r1, q1, p2, r2, q2, p3, r3, q3] 26)) ∧ GB b w (w.alloc (.cells #[p0, r0, q0, p1, r1, q1, p2, r2, q2, p3, r3, q3] 26)) ∧
      relR (rA (isFourB L b N M p0 r0 q0 p1 r1 q1)) w (.slice (some ⟨w.heap.size, 0, none⟩) 4 4) (w.alloc (.cells #[p0, r0, q0, p1, r1, q1, p2, r2, q2, p3, r3, q3] 26)) := by
  obtain ⟨q, hq⟩ := hC.2
  have hg := only_of_below (bgrow w (.cells #[p0, r0, q0, p1, r1, q1, p2, r2, q2, p3, r3, q3] 26)) (some b)
  exact ⟨hC.grown (bgrow w _), hg, ⟨_, p2, r2, q2, p3, r3, q3, rfl, by have := hq.lt; omega, heap_alloc_new _ _, isSpB_up _ _ _ _ _ _ _ hg h2, isSpB_up _ _ _ _ _ _ _ hg h3⟩, fun h => by cases h⟩
end Own
end Go.Proofs.YtiffcdhiejmbdaaGreatDoor
