/- literal.Consistent, for every list: the walk. -/
import Derived.Test.YtbldlngblmegfaaCons
import Derived.LoopTactic
namespace Go.Proofs.Ytbldlngblmegfaa
open Go.RowKit Go.Sort Go.Maps

theorem lit_bool_inj {a c : Bool} (h : (DataW.lit (.bool a) : DataW Unit) = .lit (.bool c)) : a = c := by
  simpa using h

set_option maxHeartbeats 1000000 in
theorem consistent_some (b off cap : Nat) (xs : List Lt) (w : World) (hn : xs.length ≤ 1000000) (hs : Short xs) (hb : b < w.heap.size)
    (h : ∀ i, i < xs.length → w.cell? ⟨b, off + i * 2, none⟩ = some (.bool (xs[i]!).neg) ∧ w.cell? ⟨b, off + i * 2 + 1, none⟩ = some (.string (xs[i]!).name)) :
    Calls Try.prog 31 #[.slice (some ⟨b, off, none⟩) xs.length cap] w fun e w' => e = .returned (.bool (consB xs)) ∧ Below w.heap.size w w' := by
  have hmm := @run_makeMap Try.prog
  have HH := hidIt h
  clear h
  go_enter Try.func31, Try.ntmps31
  go_wp2
  go_loopw [9] (fun i wr => ∃ k n : Nat, k ≤ xs.length ∧ n ≤ k ∧ i = .int .i64 k ∧ Hid (wr.ownsMap Try.prog 23 (plainElem Try.prog 4) w.heap.size n (seenD (xs.take k))) ∧ Hid (Below w.heap.size w wr) ∧ Hid (consUpto xs k = true)) (fun i _ => xs.length - (intOf i).toNat)
  case atStart => exact ⟨0, 0, Nat.zero_le _, Nat.le_refl _, rfl, World.ownsMap_made w _ _ _, (Below.refl _ _).alloc (Nat.le_refl _) _, rfl⟩
  case round =>
    obtain ⟨k, n, hk, hnk, rfl, hown, hbel, hcons⟩ := hrel
    by_cases hlt : k < xs.length
    · obtain ⟨c0, c1⟩ := HH.out k hlt
      rw [← hbel.out.cell (p := ⟨b, off + k * 2, none⟩) hb] at c0
      rw [← hbel.out.cell (p := ⟨b, off + k * 2 + 1, none⟩) hb] at c1
      have hsx : (xs[k]!).name.size ≤ maxLen := hs _ (by rw [getElem!_pos xs k hlt]; exact List.getElem_mem hlt)
      obtain ⟨x, hx⟩ : ∃ x, x = xs[k]! := ⟨_, rfl⟩
      rw [← hx] at c0 c1 hsx
      have HX := hidIt hx
      clear hx
      go_wp2_with fail
      refine (complement_any x _).mono ?_
      rintro e w2 ⟨rfl, hb2⟩
      obtain ⟨d0, d1⟩ := laid_cells hb2
      have hb2' := below_of_alloc hb2
      have hown2 := hown.out.kept (only_of_below hb2' none) (by simp)
      obtain ⟨c, hrun, hat⟩ := lookup_bool hown2 (comp x) hsx
      have hrun' : (Instr.lookup 67 (.map (some w.heap.size)) (.agg #[.bool (!x.neg), .string x.name]) false).run Try.prog w2 = .ok (.bool c) w2 := hrun
      rw [seenD_at (comp x) hsx (xs.take k).length _ rfl (fun z hz => hs z (List.mem_of_mem_take hz))] at hat
      have hc : Hid (c = decide (comp x ∈ xs.take k)) := (lit_bool_inj hat).symm
      have hstep : Hid (consUpto xs (k + 1) = !c) := by show _ = _; rw [consUpto, hcons.out, ← HX.out, ← hc.out]; rfl
      have hB2 : Hid (Below w.heap.size w w2) := hbel.out.trans (hb2'.mono hbel.out.size)
      clear hrun hat hb2
      cases c
      · obtain ⟨w3, hrun3, hown3, hg3⟩ := hown2.update litKeyed Try.underlying67 (by unfold maxLen; omega) (key_lit x hsx) (plainElem_bool Try.underlying4 true)
        have HO := hidIt hown3
        have HG := hidIt hg3
        have H2 := hidIt hown2
        have H2' := hidIt hb2'
        clear hown3 hg3 hown2 hb2'
        go_wp2
        go_roundw
        case rel => exact ⟨k + 1, n + 1, by omega, by omega, by go_num, by show World.ownsMap _ _ _ _ _ _ _; rw [take_snoc xs k hlt, ← HX.out, seenD_snoc]; exact HO.out, (hB2.out.grown HG.out (hB2.out.size) (fun g e => by injection e with e; omega)), hstep.out⟩
        case measure => simp [intOf]; omega
      · clear hown2 hb2'
        go_wp2
        go_ret
        exact ⟨ret_bool (by rw [consB]; exact (consUpto_false xs (k + 1) _ (by omega) hstep.out).symm), hB2.out⟩
    · go_wp2
      go_ret
      obtain rfl : k = xs.length := by omega
      exact ⟨ret_bool hcons.out.symm, hbel.out⟩

theorem consistent_nil (w : World) : Calls Try.prog 31 #[.slice none 0 0] w fun e w' => e = .returned (.bool true) ∧ Below w.heap.size w w' := by
  have hmm := @run_makeMap Try.prog
  go_enter Try.func31, Try.ntmps31
  go_wp2
  refine wp_loop_rounds 1 ?_
  rw [rounds_succ]
  go_wp2
  go_ret
  exact ⟨rfl, (Below.refl _ _).alloc (Nat.le_refl _) _⟩

/-- literal.Consistent, for every list. -/
theorem consistent_any (v : Value) (xs : List Lt) (w : World) (h : LitsAt w v xs) (hn : xs.length ≤ 1000000) (hs : Short xs) :
    Calls Try.prog 31 #[v] w fun e w' => e = .returned (.bool (consB xs)) ∧ Below w.heap.size w w' := by
  rcases h with ⟨rfl, rfl⟩ | ⟨b, off, cap, rfl, h2, h3, h4, h5⟩
  · exact consistent_nil w
  · exact consistent_some b off cap xs w hn hs h4 h5
end Go.Proofs.Ytbldlngblmegfaa
