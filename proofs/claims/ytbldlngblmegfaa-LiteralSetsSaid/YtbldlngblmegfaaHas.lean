/- literal.Has, and the reference's Same, for every list. -/
import Derived.Test.YtbldlngblmegfaaConsistW
namespace Go.Proofs.Ytbldlngblmegfaa
open Go.RowKit Go.Sort

theorem eqFieldsLt (x y : Lt) (w : World) : (Op.equalIn 10000 23 (.agg #[.bool x.neg, .string x.name]) (.agg #[.bool y.neg, .string y.name])).run Try.prog w = .ok (decide (x = y)) w := eqFieldsL x.neg y.neg x.name y.name w

theorem mem_take_succ {xs : List Lt} {x : Lt} {k : Nat} (hk : k < xs.length) : x ∈ xs.take (k + 1) ↔ x ∈ xs.take k ∨ x = xs[k]! := by
  rw [take_snoc xs k hk, List.mem_append, List.mem_singleton]

theorem not_mem_succ {xs : List Lt} {x : Lt} {k : Nat} (hk : k < xs.length) (h1 : x ∉ xs.take k) (h2 : x ≠ xs[k]!) : x ∉ xs.take (k + 1) := fun hm =>
  (mem_take_succ hk).1 hm |>.elim h1 h2

set_option maxRecDepth 100000 in
set_option maxHeartbeats 1000000 in
theorem index_some (b off cap : Nat) (xs : List Lt) (g : Bool) (s : ByteArray) (w : World) (hn : xs.length ≤ 1000000) (hb : b < w.heap.size)
    (h : ∀ i, i < xs.length → w.cell? ⟨b, off + i * 2, none⟩ = some (.bool (xs[i]!).neg) ∧ w.cell? ⟨b, off + i * 2 + 1, none⟩ = some (.string (xs[i]!).name)) :
    Calls Try.prog 54 #[.slice (some ⟨b, off, none⟩) xs.length cap, .agg #[.bool g, .string s]] w fun e w' => ∃ i : Int, e = .returned (.int .i64 i) ∧ (0 ≤ i ↔ (⟨g, s⟩ : Lt) ∈ xs) ∧ Below w.heap.size w w' := by
  have HH := hidIt h
  clear h
  go_enter Try.func54, Try.ntmps54
  go_wp2_with fail
  go_loopw [8] (fun i wr => ∃ k : Nat, k ≤ xs.length ∧ i = .int .i64 k ∧ Hid ((⟨g, s⟩ : Lt) ∉ xs.take k) ∧ Hid (wr.heap[w.heap.size]? = some (.cells #[.bool g, .string s] 23 (0, 0))) ∧ Hid (Below w.heap.size w wr)) (fun i _ => xs.length - (intOf i).toNat)
  case atStart => exact ⟨0, Nat.zero_le _, rfl, (show (⟨g, s⟩ : Lt) ∉ xs.take 0 from by simp), heap_alloc_new w _, (Below.refl _ _).alloc (Nat.le_refl _) _⟩
  case round =>
    obtain ⟨k, hk, rfl, hnot, hbox, hbel⟩ := hrel
    by_cases hlt : k < xs.length
    · obtain ⟨c0, c1⟩ := HH.out k hlt
      rw [← hbel.out.cell (p := ⟨b, off + k * 2, none⟩) hb] at c0
      rw [← hbel.out.cell (p := ⟨b, off + k * 2 + 1, none⟩) hb] at c1
      have b0 := cell_two0 hbox.out
      have b1 := cell_two1 hbox.out
      obtain ⟨x, hx⟩ : ∃ x, x = xs[k]! := ⟨_, rfl⟩
      rw [← hx] at c0 c1
      have HX := hidIt hx
      clear hx
      obtain ⟨gx, sx⟩ := x
      simp only at c0 c1
      have hgd := fun (op : BinOp) (a b : Operand) (w : World) => gdL op a b g gx s sx w
      by_cases he : (⟨g, s⟩ : Lt) = ⟨gx, sx⟩
      · have hq : ∀ w, (Op.equalIn 10000 23 (.agg #[.bool g, .string s]) (.agg #[.bool gx, .string sx])).run Try.prog w = .ok true w := fun w => by rw [eqFieldsL]; simp only [he, decide_true]
        have HE := hidIt he
        clear he
        go_wp2_with fail
        go_quiet (fail)
        go_wp2
        go_ret
        refine ⟨_, rfl, ⟨fun _ => ?_, fun _ => by omega⟩, ?_⟩
        · rw [HE.out, HX.out, getElem!_pos xs k hlt]; exact List.getElem_mem hlt
        · exact ⟨hbel.out.os, hbel.out.tape, hbel.out.output, hbel.out.size, hbel.out.block⟩
      · have hq : ∀ w, (Op.equalIn 10000 23 (.agg #[.bool g, .string s]) (.agg #[.bool gx, .string sx])).run Try.prog w = .ok false w := fun w => by rw [eqFieldsL]; simp only [he, decide_false]
        have HE := hidIt he
        clear he
        go_wp2_with fail
        go_quiet (fail)
        go_wp2
        go_roundw
        case rel => exact ⟨k + 1, by omega, by go_num, not_mem_succ hlt hnot.out (fun e => HE.out (e.trans HX.out.symm)), hbox, ⟨hbel.out.os, hbel.out.tape, hbel.out.output, hbel.out.size, hbel.out.block⟩⟩
        case measure => simp [intOf]; omega
    · obtain rfl : k = xs.length := by omega
      go_wp2
      go_ret
      refine ⟨_, rfl, ⟨fun h => by omega, fun h => absurd h ?_⟩, hbel.out⟩
      have := hnot.out
      rwa [List.take_length] at this

theorem index_nil (g : Bool) (s : ByteArray) (w : World) : Calls Try.prog 54 #[.slice none 0 0, .agg #[.bool g, .string s]] w fun e w' => ∃ i : Int, e = .returned (.int .i64 i) ∧ (0 ≤ i ↔ (⟨g, s⟩ : Lt) ∈ ([] : List Lt)) ∧ Below w.heap.size w w' := by
  go_enter Try.func54, Try.ntmps54
  go_wp2_with fail
  refine wp_loop_rounds 1 ?_
  rw [rounds_succ]
  go_wp2
  go_ret
  exact ⟨_, rfl, ⟨fun h => by omega, fun h => by cases h⟩, (Below.refl _ _).alloc (Nat.le_refl _) _⟩

theorem index_any (v : Value) (xs : List Lt) (g : Bool) (s : ByteArray) (w : World) (h : LitsAt w v xs) (hn : xs.length ≤ 1000000) :
    Calls Try.prog 54 #[v, .agg #[.bool g, .string s]] w fun e w' => ∃ i : Int, e = .returned (.int .i64 i) ∧ (0 ≤ i ↔ (⟨g, s⟩ : Lt) ∈ xs) ∧ Below w.heap.size w w' := by
  rcases h with ⟨rfl, rfl⟩ | ⟨b, off, cap, rfl, h2, h3, h4, h5⟩
  · exact index_nil g s w
  · exact index_some b off cap xs g s w hn h4 h5

set_option maxHeartbeats 400000 in
theorem contains_any (v : Value) (xs : List Lt) (g : Bool) (s : ByteArray) (w : World) (h : LitsAt w v xs) (hn : xs.length ≤ 1000000) :
    Calls Try.prog 47 #[v, .agg #[.bool g, .string s]] w fun e w' => e = .returned (.bool (decide ((⟨g, s⟩ : Lt) ∈ xs))) ∧ Below w.heap.size w w' := by
  have HI := hidIt (index_any v xs g s _ (h.grow (World.grownBy_alloc w (.cells #[.bool g, .string s] 23) none)) hn)
  clear h
  go_enter Try.func47, Try.ntmps47
  go_wp2_with fail
  refine HI.out.mono ?_
  rintro e w1 ⟨i, rfl, hi, hb⟩
  have HB := hidIt (below_of_alloc hb)
  have HIF := hidIt hi
  clear hb hi HI
  go_wp2
  go_ret
  refine ⟨ret_bool ?_, HB.out⟩
  rw [Bool.eq_iff_iff]
  simp only [decide_eq_true_eq]
  exact HIF.out

set_option maxHeartbeats 400000 in
theorem has_any (v : Value) (xs : List Lt) (g : Bool) (s : ByteArray) (w : World) (h : LitsAt w v xs) (hn : xs.length ≤ 1000000) :
    Calls Try.prog 33 #[v, .agg #[.bool g, .string s]] w fun e w' => e = .returned (.bool (decide ((⟨g, s⟩ : Lt) ∈ xs))) ∧ Below w.heap.size w w' := by
  have HI := hidIt (contains_any v xs g s _ (h.grow (World.grownBy_alloc w (.cells #[.bool g, .string s] 23) none)) hn)
  clear h
  go_enter Try.func33, Try.ntmps33
  go_wp2_with fail
  refine HI.out.mono ?_
  rintro e w1 ⟨rfl, hb⟩
  have HB := hidIt (below_of_alloc hb)
  clear hb HI
  go_wp2
  go_ret
  exact ⟨rfl, HB.out⟩
end Go.Proofs.Ytbldlngblmegfaa
