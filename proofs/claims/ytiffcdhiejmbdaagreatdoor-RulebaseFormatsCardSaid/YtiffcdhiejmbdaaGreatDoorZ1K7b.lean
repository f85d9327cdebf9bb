/- Five rule bases in one row (RulebaseFormats). -/
import Derived.Test.YtiffcdhiejmbdaaGreatDoorZ1K7a
import Derived.Test.YtiffcdhiejmbdaaGreatDoorZ1N
import Derived.Test.YtiffcdhiejmbdaaGreatDoorZ1G

namespace Go.Proofs.YtiffcdhiejmbdaaGreatDoor
set_option linter.unusedVariables false
set_option linter.unusedSimpArgs false
open Go Go.RowKit
namespace Own
/-- A rule base in blocks from L on. -/
def isOwnB (L b : Nat) : Value → World → Prop := fun v w => ∃ bs : Bs, BaseOwn w L v bs ∧ BsOk bs ∧ b < L
theorem isOwnB_up (L b : Nat) : UpB b (isOwnB L b) := fun v w w' hg ⟨bs, h1, h2, h7⟩ => ⟨bs, h1.grown hg (fun g e => by injection e with e; omega), h2, h7⟩
theorem isSpB.own {L b N M : Nat} {v : Value} {w : World} (h : isSpB L b N M v w) : isOwnB L b v w := by
  obtain ⟨bs, h1, h2, -, -, -, -, h7⟩ := h
  exact ⟨bs, h1, h2, h7⟩
theorem callBase {W w : World} {B b : Nat} {zs : List Int} (n mp mr : Nat) (hn1 : 1 ≤ n) (hn : n ≤ 26) (hmp : mp ≤ 16) (hmr1 : 1 ≤ mr) (hmr : mr ≤ 24) (hC : CB W B b zs w) (hb : b < W.heap.size) :
    Calls Tryz.prog 15 #[.pointer (some ⟨b, 0, none⟩), .int .i64 (n : Int), .int .i64 (mp : Int), .int .i64 (mr : Int)] w fun e w'' => ∃ u, e = .returned u ∧ CB W B b zs w'' ∧ GB b w w'' ∧ relR (rA (isOwnB W.heap.size b)) w u w'' := by
  obtain ⟨q, hq⟩ := hC.2
  exact callB hC ((base_any n mp mr hn1 hn (by omega) hmr1 (by omega) B b zs q w hq).mono fun e w' ⟨v', bs', q', he, ho, hgen, hr, hg⟩ =>
    ⟨v', he, ⟨bs', ho.mono hC.1.size, (baseE_fit (hgen.valid hn hmp hmr)).ok, hb⟩, ⟨q', hr⟩, hg⟩)
/-- A new row of five rule bases, the last two of the call's own. -/
def isFiveB (L b : Nat) (p0 r0 q0 p1 r1 q1 p2 r2 q2 : Value) : Value → World → Prop := fun v w => ∃ (nb : Nat) (p3 r3 q3 p4 r4 q4 : Value), v = .slice (some ⟨nb, 0, none⟩) 5 5 ∧ nb ≠ b ∧ w.heap[nb]? = some (.cells #[p0, r0, q0, p1, r1, q1, p2, r2, q2, p3, r3, q3, p4, r4, q4] 26 (0, 0)) ∧ isOwnB L b (.agg #[p3, r3, q3]) w ∧ isOwnB L b (.agg #[p4, r4, q4]) w
theorem isFiveB_up (L b : Nat) (p0 r0 q0 p1 r1 q1 p2 r2 q2 : Value) : UpB b (isFiveB L b p0 r0 q0 p1 r1 q1 p2 r2 q2) := fun v w w' hg ⟨nb, p3, r3, q3, p4, r4, q4, h1, h2, h3, h4, h5⟩ => ⟨nb, p3, r3, q3, p4, r4, q4, h1, h2, keptB hg h2 h3, isOwnB_up L b _ w w' hg h4, isOwnB_up L b _ w w' hg h5⟩
theorem fiveB {W w : World} {B b L : Nat} {zs : List Int} {p0 r0 q0 p1 r1 q1 p2 r2 q2 p3 r3 q3 p4 r4 q4 : Value} (hC : CB W B b zs w) (h3 : isOwnB L b (.agg #[p3, r3, q3]) w) (h4 : isOwnB L b (.agg #[p4, r4, q4]) w) :
    CB W B b zs (w.alloc (.cells #[p0, r0, q0, p1, r1, q1, p2, r2, q2, p3, r3, q3, p4, r4, q4] 26)) ∧ GB b w (w.alloc (.cells #[p0, r0, q0, p1, r1, q1, p2, r2, q2, p3, r3, q3, p4, r4, q4] 26)) ∧
      relR (rA (isFiveB L b p0 r0 q0 p1 r1 q1 p2 r2 q2)) w (.slice (some ⟨w.heap.size, 0, none⟩) 5 5) (w.alloc (.cells #[p0, r0, q0, p1, r1, q1, p2, r2, q2, p3, r3, q3, p4, r4, q4] 26)) := by
  obtain ⟨q, hq⟩ := hC.2
  have hg := only_of_below (bgrow w (.cells #[p0, r0, q0, p1, r1, q1, p2, r2, q2, p3, r3, q3, p4, r4, q4] 26)) (some b)
  exact ⟨hC.grown (bgrow w _), hg, ⟨_, p3, r3, q3, p4, r4, q4, rfl, by have := hq.lt; omega, heap_alloc_new _ _, isOwnB_up _ _ _ _ _ hg h3, isOwnB_up _ _ _ _ _ hg h4⟩, fun h => by cases h⟩
end Own
end Go.Proofs.YtiffcdhiejmbdaaGreatDoor
