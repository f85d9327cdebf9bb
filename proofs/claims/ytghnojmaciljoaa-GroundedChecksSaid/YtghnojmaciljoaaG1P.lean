/- keep.SpoiltGraph: a graph with one thing changed. -/
import Derived.Test.YtghnojmaciljoaaG1O
namespace Go.Proofs.Ytghnojmaciljoaa
set_option linter.unusedVariables false
set_option linter.unusedSimpArgs false
open Go Go.RowKit

theorem owns_monoP {w : World} {B B' : Nat} {e : TypeId} {k : Nat} {v : Value} {n : Nat} {xs : List Value} (h : w.ownsRow B e k v n xs) (hB : B' ≤ B) : w.ownsRow B' e k v n xs := by
  refine ⟨h.1, ?_⟩
  rcases h.2 with h0 | ⟨g, cap, cur, hv, hg, h2⟩
  · exact .inl h0
  · exact .inr ⟨g, cap, cur, hv, Nat.le_trans hB hg, h2⟩
/-- keep.SpoiltGraph under way: the result's box, the copy's box at Q, its row, the reader. -/
structure GT (w : World) (B b Q : Nat) (zs : List Int) (n : Int) (wr : World) (v : Value) (ps : List (Int × Int)) (k : Nat) : Prop where
  bl : b < w.heap.size
  lo : w.heap.size + 2 ≤ Q
  res : wr.heap[w.heap.size + 1]? = some (.cells #[.int .i64 0, .slice none 0 0] 27 (0, 0))
  box : wr.heap[Q]? = some (.cells #[.int .i64 n, v] 27 (0, 0))
  own : OwnP wr (w.heap.size + 2) v ps
  src : SrcAt wr B b zs k
  gr : w.grownBy wr (some b)
section
variable {w wr w' w8 : World} {B b Q k k' : Nat} {zs : List Int} {n m : Int} {v v8 : Value} {ps : List (Int × Int)}
theorem GT.call (h : GT w B b Q zs n wr v ps k) (hs : SrcAt w' B b zs k') (hg : wr.grownBy w' (some b)) : GT w B b Q zs n w' v ps k' := by
  have hbl := h.bl; have hlo := h.lo
  exact ⟨h.bl, h.lo, (hg.block _ (lt_of_block h.res) (fun e => by injection e with e; omega)).trans h.res, (hg.block Q (lt_of_block h.box) (fun e => by injection e with e; omega)).trans h.box,
    owns_kept h.own fun g e => hg.block g (owns_blk h.own g e).2 (fun e2 => by injection e2 with e2; have := (owns_blk h.own g e).1; omega), hs, only_trans h.gr hg⟩
theorem GT.ne (h : GT w B b Q zs n wr v ps k) : ∀ g, v.ownBlock = some g → g ≠ Q := fun g e => by
  obtain ⟨c, hc⟩ := owns_tag h.own e
  exact tag_ne hc h.box (by decide)
theorem GT.go (h : GT w B b Q zs n wr v ps k) (hb : Below wr.heap.size wr w') : GT w B b Q zs n w' v ps k := h.call (h.src.grow (only_of_below hb none)) (only_of_below hb _)
theorem GT.app {x : Int × Int} (h : GT w B b Q zs n wr v ps k) (hown : w8.ownsRow (w.heap.size + 2) 43 2 v8 (ps.length + 1) (ps.flatMap encP ++ [.int .i64 x.1, .int .i64 x.2])) (hg : wr.grownBy w8 v.ownBlock) (h8 : ∀ g, v8.ownBlock = some g → g ≠ Q) :
    GT w B b Q zs n (w8.setCell ⟨Q, 1, none⟩ v8) v8 (ps ++ [x]) k := by
  have hOB : ∀ g, v.ownBlock = some g → w.heap.size + 2 ≤ g := fun g e => (owns_blk h.own g e).1
  have hbl := h.bl; have hlo := h.lo
  have hsb := h.src.base
  have hR := (hg.block _ (lt_of_block h.res) (fun e => by have := hOB _ e.symm; omega)).trans h.res
  have hQ := (hg.block Q (lt_of_block h.box) (fun e => h.ne Q e.symm rfl)).trans h.box
  have hO : OwnP w8 (w.heap.size + 2) v8 (ps ++ [x]) := OwnP.snoc hown
  refine ⟨h.bl, h.lo, ?_, ?_, owns_kept hO fun g e => ?_, (h.src.kept hg (fun g e => by have := hOB g e; exact ⟨by omega, by omega⟩)).setCell ⟨Q, 1, none⟩ v8 (by show B ≤ Q; omega) (by show Q ≠ b; omega), ?_⟩
  · rw [Below.heap_setCell w8 ⟨Q, 1, none⟩ _ _ (by show w.heap.size + 1 ≠ Q; omega)]
    exact hR
  · have := set_cells (i := 1) (u := v8) hQ
    simpa using this
  · exact Below.heap_setCell w8 ⟨Q, 1, none⟩ _ g (by show g ≠ Q; exact h8 g e)
  · have h1 : w.grownBy w8 (some b) := ⟨hg.os.trans h.gr.os, hg.tape.trans h.gr.tape, hg.output.trans h.gr.output, Nat.le_trans h.gr.size hg.size, fun i hi hne => (hg.block i (Nat.lt_of_lt_of_le hi h.gr.size) (fun e => by have := hOB _ e.symm; omega)).trans (h.gr.block i hi hne)⟩
    exact only_setCell h1 (.inr (by show w.heap.size ≤ Q; omega)) v8
theorem GT.setN (h : GT w B b Q zs n wr v ps k) (m : Int) : GT w B b Q zs m (wr.setCell ⟨Q, 0, none⟩ (.int .i64 m)) v ps k := by
  have hbl := h.bl; have hlo := h.lo
  have hsb := h.src.base
  refine ⟨h.bl, h.lo, ?_, ?_, owns_kept h.own fun g e => Below.heap_setCell wr ⟨Q, 0, none⟩ _ g (by show g ≠ Q; exact h.ne g e), h.src.setCell ⟨Q, 0, none⟩ _ (by show B ≤ Q; omega) (by show Q ≠ b; omega), only_setCell h.gr (.inr (by show w.heap.size ≤ Q; omega)) _⟩
  · rw [Below.heap_setCell wr ⟨Q, 0, none⟩ _ _ (by show w.heap.size + 1 ≠ Q; omega)]
    exact h.res
  · have := set_cells (i := 0) (u := .int .i64 m) h.box
    simpa using this
theorem GT.put {g c : Nat} (h : GT w B b Q zs n wr (.slice (some ⟨g, 0, none⟩) ps.length c) ps k) {i j : Nat} (hi : i < ps.length) (hj : j < 2) {u : Value} {y : Int × Int} (hy : encP y = (encP ps[i]).set j u) :
    GT w B b Q zs n (wr.setCell ⟨g, i * 2 + j, none⟩ u) (.slice (some ⟨g, 0, none⟩) (ps.set i y).length c) (ps.set i y) k := by
  have hbl := h.bl; have hlo := h.lo
  have hsb := h.src.base
  have hgQ := h.ne g rfl
  have hg0 := (owns_blk h.own g rfl).1
  have hl : (ps.set i y).length = ps.length := by simp
  rw [hl]
  refine ⟨h.bl, h.lo, ?_, ?_, ?_, h.src.setCell ⟨g, i * 2 + j, none⟩ _ (by show B ≤ g; omega) (by show g ≠ b; omega), only_setCell h.gr (.inr (by show w.heap.size ≤ g; omega)) _⟩
  · rw [Below.heap_setCell wr ⟨g, i * 2 + j, none⟩ _ _ (by show w.heap.size + 1 ≠ g; omega)]
    exact h.res
  · rw [Below.heap_setCell wr ⟨g, i * 2 + j, none⟩ _ _ (by show Q ≠ g; exact fun e => hgQ e.symm)]
    exact h.box
  · have h3 := (World.ownsRow.stored (show wr.ownsRow (w.heap.size + 2) 43 2 _ ps.length (ps.flatMap encP) from h.own) (i * 2 + j) u).1
    rw [flat_put encP 2 (fun _ => rfl) u y ps i j hi hj hy] at h3
    show World.ownsRow _ _ _ _ _ (ps.set i y).length _
    rw [hl]
    exact h3
/-- The cells of a pair. -/
theorem GT.cell2 {a : Option Addr} {c : Nat} (h : GT w B b Q zs n wr (.slice a ps.length c) ps k) {i : Nat} (hi : i < ps.length) : ∃ g : Nat, a = some ⟨g, 0, none⟩ ∧ g < wr.heap.size ∧ g ≠ b ∧ g ≠ Q ∧ wr.frozen? ⟨g, i * 2, none⟩ = false ∧ wr.frozen? ⟨g, i * 2 + 1, none⟩ = false ∧
    wr.cell? ⟨g, i * 2, none⟩ = some (.int .i64 (ps[i]).1) ∧ wr.cell? ⟨g, i * 2 + 1, none⟩ = some (.int .i64 (ps[i]).2) := by
  have ho : wr.ownsRow (w.heap.size + 2) 43 2 (.slice a ps.length c) ps.length (ps.flatMap encP) := h.own
  rcases ho.2 with ⟨hv, h0⟩ | ⟨g, cap, cur, hv, hB, hg, hnc, hcm, -, -⟩
  · omega
  · injection hv with hv1
    have hc := fun j (hj : j < 2) (u : Value) (hu : (encP ps[i])[j]? = some u) => owns_cell ho (by rw [hv1]) (i * 2 + j) u (by
      rw [flat_get encP 2 (fun _ => rfl) ps i j hi hj]; exact hu)
    have hbl := h.bl
    exact ⟨g, hv1, lt_of_block hg, by omega, h.ne g (by rw [hv1]; rfl), free_any hg _, free_any hg _, hc 0 (by decide) _ rfl, hc 1 (by decide) _ rfl⟩
end

/-- What SpoiltGraph hands back. -/
def SpoiltOut (w : World) (B b : Nat) (zs : List Int) (m : Nat) (e : Ending) (w' : World) : Prop :=
  ∃ (n : Int) (ps : List (Int × Int)) (a : Option Addr) (c k : Nat), e = .returned (.agg #[.int .i64 n, .slice a ps.length c]) ∧ ps.length ≤ m + 1 ∧ OwnPairs w' w.heap.size (.slice a ps.length c) ps ∧ SrcAt w' B b zs k ∧ w.grownBy w' (some b)
theorem GT.fin {w wr : World} {B b Q k : Nat} {zs : List Int} {n : Int} {a : Option Addr} {c : Nat} {ps : List (Int × Int)} {m : Nat} (h : GT w B b Q zs n wr (.slice a ps.length c) ps k) (hm : ps.length ≤ m + 1) (A C : Value) :
    SpoiltOut w B b zs m (.returned (.agg #[.int .i64 n, .slice a ps.length c])) ((wr.setCell ⟨w.heap.size + 1, 0, none⟩ A).setCell ⟨w.heap.size + 1, 1, none⟩ C) := by
  have hbl := h.bl; have hlo := h.lo
  have hsb := h.src.base
  have ho : OwnP ((wr.setCell ⟨w.heap.size + 1, 0, none⟩ A).setCell ⟨w.heap.size + 1, 1, none⟩ C) (w.heap.size + 2) (.slice a ps.length c) ps := owns_kept h.own fun g e => by
    have := (owns_blk h.own g e).1
    rw [Below.heap_setCell _ _ _ _ (by show g ≠ w.heap.size + 1; omega), Below.heap_setCell _ _ _ _ (by show g ≠ w.heap.size + 1; omega)]
  refine ⟨n, ps, a, c, k, rfl, hm, ?_, (h.src.setCell ⟨w.heap.size + 1, 0, none⟩ _ (by show B ≤ w.heap.size + 1; omega) (by show w.heap.size + 1 ≠ b; omega)).setCell ⟨w.heap.size + 1, 1, none⟩ _ (by show B ≤ w.heap.size + 1; omega) (by show w.heap.size + 1 ≠ b; omega),
    only_setCell (only_setCell h.gr (.inr (by show w.heap.size ≤ w.heap.size + 1; omega)) _) (.inr (by show w.heap.size ≤ w.heap.size + 1; omega)) _⟩
  have ho2 : OwnP ((wr.setCell ⟨w.heap.size + 1, 0, none⟩ A).setCell ⟨w.heap.size + 1, 1, none⟩ C) w.heap.size (.slice a ps.length c) ps := owns_monoP ho (by omega)
  exact ho2.own
end Go.Proofs.Ytghnojmaciljoaa
