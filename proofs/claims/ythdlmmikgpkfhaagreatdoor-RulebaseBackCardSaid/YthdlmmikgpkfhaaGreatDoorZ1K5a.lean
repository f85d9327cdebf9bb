/- The calls that read a number out of none, one of some numbers, and literals with names of one letter (package keep). -/
import Derived.Test.YthdlmmikgpkfhaaGreatDoorZ1SLits
import Derived.Test.YthdlmmikgpkfhaaGreatDoorZ1B5t

namespace Go.Proofs.YthdlmmikgpkfhaaGreatDoor
set_option linter.unusedVariables false
set_option linter.unusedSimpArgs false
open Go Go.RowKit

/-- One of the first n letters. -/
def LetterN (n : Nat) (x : Lt) : Prop := ∃ m : Nat, m < n ∧ x.name = letter m
theorem LetterN.mono {n n' : Nat} {x : Lt} (h : LetterN n x) (hn : n ≤ n') : LetterN n' x := by
  obtain ⟨m, h1, h2⟩ := h
  exact ⟨m, by omega, h2⟩
theorem LetterN.size {n : Nat} {x : Lt} (h : LetterN n x) : x.name.size = 1 := by
  obtain ⟨m, h1, h2⟩ := h
  rw [h2]
  rfl
def Letters (n : Nat) (xs : List Lt) : Prop := ∀ x ∈ xs, LetterN n x
theorem letters_snoc {n : Nat} {xs : List Lt} {x : Lt} (h : Letters n xs) (hx : LetterN n x) : Letters n (xs ++ [x]) := fun y hy => by
  rcases List.mem_append.1 hy with h1 | h1
  · exact h y h1
  · rw [List.mem_singleton.1 h1]; exact hx

set_option maxHeartbeats 400000 in
/-- N of no more than nothing reads a number and answers 0. -/
theorem sn0_any (B b : Nat) (zs : List Int) (k : Nat) (w : World) (h : SrcAt w B b zs k) :
    Calls Tryz.prog 33 #[.pointer (some ⟨b, 0, none⟩), .int .i64 0] w (Read w B b zs fun z => z = 0) := by
  have H := hidIt h
  clear h
  go_enter Tryz.func33, Tryz.ntmps33
  go_wp2_with (first | (go_at_call 83; refine (raw_any B b zs k _ H.out).mono ?_; rintro e w' ⟨z, k', rfl, hz, hs, hg⟩; have HZ := hidIt hz; have HS := hidIt hs; have HG := hidIt hg; clear hz hs hg) | (go_at_call 32; refine (mod_any _ _ HZ.out.1 HZ.out.2 (by omega) (by omega) _).mono ?_; rintro e w' ⟨rfl, rfl⟩))
  go_ret
  exact ⟨_, k', rfl, by simp [modI], HS.out, HG.out⟩

/-- N of n, as a place in a list of n, or 0. -/
theorem snz_any (n : Nat) (hn : n ≤ 1000000) (B b : Nat) (zs : List Int) (k : Nat) (w : World) (h : SrcAt w B b zs k) :
    Calls Tryz.prog 33 #[.pointer (some ⟨b, 0, none⟩), .int .i64 (n : Int)] w fun e w' => ∃ (m k' : Nat), e = .returned (.int .i64 (m : Int)) ∧ (0 < n → m < n) ∧ (n = 0 → m = 0) ∧ SrcAt w' B b zs k' ∧ w.grownBy w' (some b) := by
  by_cases h0 : n = 0
  · subst h0
    refine (sn0_any B b zs k w h).mono ?_
    rintro e w' ⟨z, k', rfl, rfl, hs, hg⟩
    exact ⟨0, k', rfl, fun h => by omega, fun _ => rfl, hs, hg⟩
  · refine (sn_nat (n : Int) (by omega) (by omega) B b zs k w h).mono ?_
    rintro e w' ⟨m, k', rfl, hm, hs, hg⟩
    exact ⟨m, k', rfl, fun _ => by omega, fun h => absurd h h0, hs, hg⟩

/-- A list of numbers that has been laid whole. -/
def intRow (ss : List Int) : Array Value := (ss.map (Value.int .i64)).toArray
theorem int_cell {w : World} {lb : Nat} {ss : List Int} {t : TypeId} (h : w.heap[lb]? = some (.cells (intRow ss) t (0, 0))) (m : Nat) (hm : m < ss.length) : w.cell? ⟨lb, m, none⟩ = some (.int .i64 (ss[m])) := by
  simp [World.cell?, h, intRow, hm]

set_option maxHeartbeats 400000 in
theorem pick_any (lb : Nat) (ss : List Int) (t : TypeId) (hss : 1 ≤ ss.length) (hss' : ss.length ≤ 1000) (B b : Nat) (zs : List Int) (k : Nat) (w : World) (h : SrcAt w B b zs k) (hl : w.heap[lb]? = some (.cells (intRow ss) t (0, 0))) (hne : lb ≠ b) :
    Calls Tryz.prog 62 #[.pointer (some ⟨b, 0, none⟩), .slice (some ⟨lb, 0, none⟩) ss.length ss.length] w fun e w' => ∃ (s : Int) (k' : Nat), e = .returned (.int .i64 s) ∧ s ∈ ss ∧ SrcAt w' B b zs k' ∧ w.grownBy w' (some b) := by
  have H := hidIt h
  have HL := hidIt hl
  clear h hl
  go_enter Tryz.func62, Tryz.ntmps62
  go_wp2_with fail
  refine (sn_nat _ (by omega) (by omega) B b zs k _ H.out).mono ?_
  rintro e w' ⟨m, k', rfl, hm, hs, hg⟩
  have hm' : m < ss.length := by omega
  have hc : w'.cell? ⟨lb, m, none⟩ = some (.int .i64 (ss[m])) := hg.cell (int_cell HL.out m hm') (fun e => hne (by injection e))
  have HS := hidIt hs; have HG := hidIt hg; clear hs hg
  have hmem : Hid (ss[m] ∈ ss) := List.getElem_mem hm'
  generalize ss[m] = s at hc hmem
  go_wp2
  go_ret
  exact ⟨s, k', rfl, hmem.out, HS.out, HG.out⟩

set_option maxRecDepth 100000 in
set_option maxHeartbeats 2000000 in
theorem slits2_any (most n : Nat) (hm : most ≤ 1000) (hn : 1 ≤ n) (hn' : n ≤ 26) (B b : Nat) (zs : List Int) (k : Nat) (w : World) (h : SrcAt w B b zs k) :
    Calls Tryz.prog 38 #[.pointer (some ⟨b, 0, none⟩), .int .i64 (most : Int), .int .i64 (n : Int)] w fun e w' => ∃ (v : Value) (xs : List Lt) (q : Nat), e = .returned v ∧ OwnL w' w.heap.size v xs ∧ xs.length ≤ most ∧ Letters n xs ∧ SrcAt w' B b zs q ∧ w.grownBy w' (some b) := by
  obtain ⟨i0, hi, hz0, hz1, hz2⟩ := info_parts infoL
  have H := hidIt h
  have hlt := h.lt
  clear h
  go_enter Tryz.func38, Tryz.ntmps38
  go_wp2_with fail
  refine (sn_nat ((most : Int) + 1) (by omega) (by omega) B b zs k _ H.out).mono ?_
  rintro e w1 ⟨m, k1, rfl, hmm, hs1, hg1⟩
  have HS1 := hidIt hs1
  have HG1 := hidIt hg1
  clear hs1 hg1 H
  go_wp2_with fail
  go_loopw [7, 8] (fun v i wr => ∃ (r q : Nat) (xs : List Lt), i = .int .i64 r ∧ r + xs.length ≤ most ∧ Hid (OwnL wr w.heap.size v xs) ∧ Hid (Letters n xs) ∧ Hid (SrcAt wr B b zs q) ∧ Hid (w.grownBy wr (some b))) (fun _ i _ => (intOf i).toNat)
  case atStart => exact ⟨m, k1, [], rfl, by simp; omega, OwnL.nil _ _, (show Letters n [] from by unfold Letters; simp), HS1.out, HG1.out⟩
  case round =>
    clear HS1 HG1
    obtain ⟨r, q, xs, rfl, hr, hown, hsh, hsrc, hgr⟩ := hrel
    by_cases hpos : 0 < r
    · go_wp2_with fail
      refine (slit_any (n : Int) (by omega) (by omega) B b zs q _ hsrc.out).mono ?_
      rintro e w2 ⟨g, mm, q2, rfl, hmm2, hs2, hg2⟩
      have HO2 := hidIt (hown.out.kept hg2 (fun g e => by injection e with e; omega))
      have HS2 := hidIt hs2
      have HG2 := hidIt (only_trans hgr.out hg2)
      clear hs2 hg2
      have hown3 := World.ownsRow.alloc HO2.out (.cells #[.bool g, .string (letter mm)] 28)
      go_wp2_with (at_builtin; refine wpList_append_own _ rfl _ _ 58 rfl w.heap.size 28 i0 _ 2 24 Tryz.underlying58 hi hz0 hz1 hz2 rfl (by decide) _ _ _ rfl hown3 ⟨w2.heap.size, 0, none⟩ 1 1 [.bool g, .string (letter mm)] rfl rfl ?c1 ?c2 ?c3 ?c4 ?c5 ?_)
      case c1 =>
        intro j u hj
        have hnew := heap_alloc_new w2 (.cells #[.bool g, .string (letter mm)] 28)
        match j, hj with
        | 0, hj => simp only [List.getElem?_cons_zero, Option.some.injEq] at hj; rw [← hj]; simp only [Addr.add]; exact cell_two0 hnew
        | 1, hj => simp only [List.getElem?_cons_succ, List.getElem?_cons_zero, Option.some.injEq] at hj; rw [← hj]; simp only [Addr.add]; exact cell_two1 hnew
        | j + 2, hj => simp at hj
      case c2 =>
        intro u hu
        simp only [List.mem_cons, List.not_mem_nil, or_false] at hu
        rcases hu with rfl | rfl <;> rfl
      case c3 => unfold maxLen; omega
      case c4 => omega
      case c5 => have := HG2.out.size; simp; omega
      intro v' w3 hown4 hg3 _
      have HO4 : Hid (OwnL w3 w.heap.size v' (xs ++ [⟨g, letter mm⟩])) := by
        show World.ownsRow _ _ _ _ _ _ _
        rw [flatL_append, List.length_append, flatL_one_lit]
        exact hown4
      have hr0 : ∀ gg, u7.ownBlock = some gg → w.heap.size ≤ gg := fun gg e => (hown.out.own_block gg e).1
      have HS3 := hidIt ((HS2.out.alloc (.cells #[.bool g, .string (letter mm)] 28)).own hg3 hr0 hlt)
      have HG3 := hidIt (only_own (only_alloc HG2.out (.cells #[.bool g, .string (letter mm)] 28)) hg3 hr0)
      clear hown4 hg3 hown3 hr0
      go_wp2
      go_roundw
      case rel => exact ⟨r - 1, q2, xs ++ [(⟨g, letter mm⟩ : Lt)], by go_num, by rw [List.length_append]; simp; omega, HO4, letters_snoc hsh.out (x := ⟨g, letter mm⟩) ⟨mm, by omega, rfl⟩, HS3, HG3⟩
      case measure => simp [intOf]; omega
    · go_wp2
      go_ret
      exact ⟨_, xs, q, rfl, hown.out, by omega, hsh.out, hsrc.out, hgr.out⟩
end Go.Proofs.YthdlmmikgpkfhaaGreatDoor
