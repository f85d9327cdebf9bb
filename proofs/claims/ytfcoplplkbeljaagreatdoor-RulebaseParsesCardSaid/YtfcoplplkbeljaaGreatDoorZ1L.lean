/- The call that builds a list of literals out of numbers (package keep), and append at lists of literals. The calls that read a number out of none, one of some numbers, and literals with names of one letter (package keep). copy at a row whose elements have several cells; where the cells of a list stand. Literals in ascending order, each once (package keep): the plain part. -/
import Derived.Test.YtfcoplplkbeljaaGreatDoorZ1A
import Derived.Test.YtfcoplplkbeljaaGreatDoorOdd
import Derived.OwnWalk
import Derived.Test.YtfcoplplkbeljaaGreatDoorZ1B
import Derived.Laws.CopyRow
import Derived.Laws.CopyOwn
import Derived.Test.YtfcoplplkbeljaaGreatDoorZ1D

namespace Go.Proofs.YtfcoplplkbeljaaGreatDoor
set_option linter.unusedVariables false
set_option linter.unusedSimpArgs false
open Go.RowKit Go.Sort

theorem flatL_nil : flatL [] = [] := by
  apply List.eq_nil_of_length_eq_zero
  rw [flatL_len]
  rfl

theorem flatMap_get : ∀ (xs : List Lt) (j : Nat), j < xs.length * 2 → (xs.flatMap encL)[j]? = some ((encL xs[j / 2]!)[j % 2]!)
  | [], j, h => by simp at h
  | x :: r, j, h => by
    rw [List.flatMap_cons]
    match j with
    | 0 => rfl
    | 1 => rfl
    | j + 2 =>
      have ih := flatMap_get r j (by simp at h; omega)
      rw [show (j + 2) / 2 = j / 2 + 1 by omega, show (j + 2) % 2 = j % 2 by omega]
      exact ih

theorem flatMap_len (xs : List Lt) : (xs.flatMap encL).length = xs.length * 2 := by
  induction xs with
  | nil => rfl
  | cons x r ih => rw [List.flatMap_cons, List.length_append, ih, encL_len, List.length_cons]; omega

theorem flatL_eq (xs : List Lt) : flatL xs = xs.flatMap encL := by
  apply List.ext_getElem?
  intro j
  by_cases h : j < xs.length * 2
  · rw [flatL_get xs j h, flatMap_get xs j h]
  · rw [List.getElem?_eq_none (by rw [flatL_len]; omega), List.getElem?_eq_none (by rw [flatMap_len]; omega)]

theorem flatL_append (xs ys : List Lt) : flatL (xs ++ ys) = flatL xs ++ flatL ys := by
  rw [flatL_eq, flatL_eq, flatL_eq, List.flatMap_append]

theorem flatL_one_lit (x : Lt) : flatL [x] = [.bool x.neg, .string x.name] := by rw [flatL_eq]; rfl

/-- The value is a list of literals that the call owns, from block B on. -/
def OwnL (w : World) (B : Nat) (v : Value) (xs : List Lt) : Prop := w.ownsRow B 46 2 v xs.length (flatL xs)

theorem OwnL.lits {w : World} {B : Nat} {v : Value} {xs : List Lt} (h : OwnL w B v xs) : OwnLits w B v xs := by
  by_cases hn : v = .slice none 0 0
  · obtain ⟨_, h | ⟨g, cap, cur, h1, _⟩⟩ := h
    · exact .inl ⟨h.1, List.eq_nil_of_length_eq_zero h.2⟩
    · rw [h1] at hn; cases hn
  · exact holds_of_owns h hn

theorem OwnL.nil (w : World) (B : Nat) : OwnL w B (.slice none 0 0) [] := by
  unfold OwnL
  rw [flatL_nil]
  exact World.ownsRow_nil w B _ _

theorem OwnL.own_block {w : World} {B : Nat} {v : Value} {xs : List Lt} (h : OwnL w B v xs) : ∀ g, v.ownBlock = some g → B ≤ g ∧ g < w.heap.size := World.ownsRow.lt h

theorem OwnL.kept {w w' : World} {B : Nat} {v : Value} {xs : List Lt} {row : Option Nat} (h : OwnL w B v xs) (hg : w.grownBy w' row) (hr : ∀ g, row = some g → g < B) : OwnL w' B v xs := by
  refine World.ownsRow.kept h hg ?_
  cases hv : v.ownBlock with
  | none => exact .inl rfl
  | some g =>
    refine .inr (fun e => ?_)
    have h1 := (h.own_block g hv).1
    have h2 := hr g e.symm
    omega

theorem only_own {w a a' : World} {b : Nat} {row : Option Nat} (h : w.grownBy a (some b)) (hg : a.grownBy a' row) (hr : ∀ g, row = some g → w.heap.size ≤ g) : w.grownBy a' (some b) :=
  ⟨hg.os.trans h.os, hg.tape.trans h.tape, hg.output.trans h.output, Nat.le_trans h.size hg.size, fun k hk hne => (hg.block k (Nat.lt_of_lt_of_le hk h.size) (fun e => by have := hr k e.symm; omega)).trans (h.block k hk hne)⟩

theorem SrcAt.own {w w' : World} {B b : Nat} {zs : List Int} {k Bo : Nat} {row : Option Nat} (h : SrcAt w B b zs k) (hg : w.grownBy w' row) (hr : ∀ g, row = some g → Bo ≤ g) (hb : b < Bo) : SrcAt w' B b zs k :=
  h.kept hg (fun g e => ⟨by have := hr g e; have := h.base; omega, by have := hr g e; omega⟩)

/-- All names are of one letter at most. -/
def Short1 (xs : List Lt) : Prop := ∀ x ∈ xs, x.name.size ≤ 1

theorem short_snoc {xs : List Lt} {x : Lt} (h : Short1 xs) (hx : x.name.size ≤ 1) : Short1 (xs ++ [x]) := fun y hy => by
  rcases List.mem_append.1 hy with h1 | h1
  · exact h y h1
  · rw [List.mem_singleton.1 h1]; exact hx

set_option maxRecDepth 100000 in
set_option maxHeartbeats 2000000 in
theorem slits_any (most n : Nat) (hm : most ≤ 1000) (hn : 1 ≤ n) (hn' : n ≤ 26) (B b : Nat) (zs : List Int) (k : Nat) (w : World) (h : SrcAt w B b zs k) :
    Calls Tryz.prog 22 #[.pointer (some ⟨b, 0, none⟩), .int .i64 (most : Int), .int .i64 (n : Int)] w fun e w' => ∃ (v : Value) (xs : List Lt) (q : Nat), e = .returned v ∧ OwnL w' w.heap.size v xs ∧ xs.length ≤ most ∧ Short1 xs ∧ SrcAt w' B b zs q ∧ w.grownBy w' (some b) := by
  obtain ⟨i0, hi, hz0, hz1, hz2⟩ := info_parts infoL
  have H := hidIt h
  have hlt := h.lt
  clear h
  go_enter Tryz.func22, Tryz.ntmps22
  go_wp2_with fail
  refine (sn_nat ((most : Int) + 1) (by omega) (by omega) B b zs k _ H.out).mono ?_
  rintro e w1 ⟨m, k1, rfl, hmm, hs1, hg1⟩
  have HS1 := hidIt hs1
  have HG1 := hidIt hg1
  clear hs1 hg1 H
  go_wp2_with fail
  go_loopw [7, 8] (fun v i wr => ∃ (r q : Nat) (xs : List Lt), i = .int .i64 r ∧ r + xs.length ≤ most ∧ Hid (OwnL wr w.heap.size v xs) ∧ Hid (Short1 xs) ∧ Hid (SrcAt wr B b zs q) ∧ Hid (w.grownBy wr (some b))) (fun _ i _ => (intOf i).toNat)
  case atStart => exact ⟨m, k1, [], rfl, by simp; omega, OwnL.nil _ _, (show Short1 [] from by unfold Short1; simp), HS1.out, HG1.out⟩
  case round =>
    clear HS1 HG1
    obtain ⟨r, q, xs, rfl, hr, hown, hsh, hsrc, hgr⟩ := hrel
    by_cases hpos : 0 < r
    · go_wp2_with fail
      refine (slit_any (n : Int) (by omega) (by omega) B b zs q _ hsrc.out).mono ?_
      rintro e w2 ⟨g, mm, q2, rfl, hmm2, hs2, hg2⟩
      have HO2 := hidIt (hown.out.kept hg2 (fun g e => by injection e with e; omega))
      have HS2 := hidIt hs2
      have HG2 := hidIt (only_trans hgr.out hg2)
      clear hs2 hg2
      have hown3 := World.ownsRow.alloc HO2.out (.cells #[.bool g, .string (letter mm)] 46)
      go_wp2_with (at_builtin; refine wpList_append_own _ rfl _ _ 44 rfl w.heap.size 46 i0 _ 2 24 Tryz.underlying44 hi hz0 hz1 hz2 rfl (by decide) _ _ _ rfl hown3 ⟨w2.heap.size, 0, none⟩ 1 1 [.bool g, .string (letter mm)] rfl rfl ?c1 ?c2 ?c3 ?c4 ?c5 ?_)
      case c1 =>
        intro j u hj
        have hnew := heap_alloc_new w2 (.cells #[.bool g, .string (letter mm)] 46)
        match j, hj with
        | 0, hj => simp only [List.getElem?_cons_zero, Option.some.injEq] at hj; rw [← hj]; simp only [Addr.add]; exact cell_two0 hnew
        | 1, hj => simp only [List.getElem?_cons_succ, List.getElem?_cons_zero, Option.some.injEq] at hj; rw [← hj]; simp only [Addr.add]; exact cell_two1 hnew
        | j + 2, hj => simp at hj
      case c2 =>
        intro u hu
        simp only [List.mem_cons, List.not_mem_nil, or_false] at hu
        rcases hu with rfl | rfl <;> rfl
      case c3 => unfold maxLen; omega
      case c4 => omega
      case c5 => have := HG2.out.size; simp; omega
      intro v' w3 hown4 hg3 _
      have HO4 : Hid (OwnL w3 w.heap.size v' (xs ++ [⟨g, letter mm⟩])) := by
        show World.ownsRow _ _ _ _ _ _ _
        rw [flatL_append, List.length_append, flatL_one_lit]
        exact hown4
      have hr0 : ∀ gg, u7.ownBlock = some gg → w.heap.size ≤ gg := fun gg e => (hown.out.own_block gg e).1
      have HS3 := hidIt ((HS2.out.alloc (.cells #[.bool g, .string (letter mm)] 46)).own hg3 hr0 hlt)
      have HG3 := hidIt (only_own (only_alloc HG2.out (.cells #[.bool g, .string (letter mm)] 46)) hg3 hr0)
      clear hown4 hg3 hown3 hr0
      go_wp2
      go_roundw
      case rel => exact ⟨r - 1, q2, xs ++ [(⟨g, letter mm⟩ : Lt)], by go_num, by rw [List.length_append]; simp; omega, HO4, short_snoc hsh.out (x := ⟨g, letter mm⟩) (Nat.le_refl 1), HS3, HG3⟩
      case measure => simp [intOf]; omega
    · go_wp2
      go_ret
      exact ⟨_, xs, q, rfl, hown.out, by omega, hsh.out, hsrc.out, hgr.out⟩
end Go.Proofs.YtfcoplplkbeljaaGreatDoor

namespace Go.Proofs.YtfcoplplkbeljaaGreatDoor
set_option linter.unusedVariables false
set_option linter.unusedSimpArgs false
open Go Go.RowKit

/-- One of the first n letters. -/
def LetterN (n : Nat) (x : Lt) : Prop := ∃ m : Nat, m < n ∧ x.name = letter m
theorem LetterN.mono {n n' : Nat} {x : Lt} (h : LetterN n x) (hn : n ≤ n') : LetterN n' x := by
  obtain ⟨m, h1, h2⟩ := h
  exact ⟨m, by omega, h2⟩
theorem LetterN.size {n : Nat} {x : Lt} (h : LetterN n x) : x.name.size = 1 := by
  obtain ⟨m, h1, h2⟩ := h
  rw [h2]
  rfl
def Letters (n : Nat) (xs : List Lt) : Prop := ∀ x ∈ xs, LetterN n x
theorem letters_snoc {n : Nat} {xs : List Lt} {x : Lt} (h : Letters n xs) (hx : LetterN n x) : Letters n (xs ++ [x]) := fun y hy => by
  rcases List.mem_append.1 hy with h1 | h1
  · exact h y h1
  · rw [List.mem_singleton.1 h1]; exact hx

set_option maxHeartbeats 400000 in
/-- N of no more than nothing reads a number and answers 0. -/
theorem sn0_any (B b : Nat) (zs : List Int) (k : Nat) (w : World) (h : SrcAt w B b zs k) :
    Calls Tryz.prog 14 #[.pointer (some ⟨b, 0, none⟩), .int .i64 0] w (Read w B b zs fun z => z = 0) := by
  have H := hidIt h
  clear h
  go_enter Tryz.func14, Tryz.ntmps14
  go_wp2_with (first | (go_at_call 51; refine (raw_any B b zs k _ H.out).mono ?_; rintro e w' ⟨z, k', rfl, hz, hs, hg⟩; have HZ := hidIt hz; have HS := hidIt hs; have HG := hidIt hg; clear hz hs hg) | (go_at_call 13; refine (mod_any _ _ HZ.out.1 HZ.out.2 (by omega) (by omega) _).mono ?_; rintro e w' ⟨rfl, rfl⟩))
  go_ret
  exact ⟨_, k', rfl, by simp [modI], HS.out, HG.out⟩

/-- N of n, as a place in a list of n, or 0. -/
theorem snz_any (n : Nat) (hn : n ≤ 1000000) (B b : Nat) (zs : List Int) (k : Nat) (w : World) (h : SrcAt w B b zs k) :
    Calls Tryz.prog 14 #[.pointer (some ⟨b, 0, none⟩), .int .i64 (n : Int)] w fun e w' => ∃ (m k' : Nat), e = .returned (.int .i64 (m : Int)) ∧ (0 < n → m < n) ∧ (n = 0 → m = 0) ∧ SrcAt w' B b zs k' ∧ w.grownBy w' (some b) := by
  by_cases h0 : n = 0
  · subst h0
    refine (sn0_any B b zs k w h).mono ?_
    rintro e w' ⟨z, k', rfl, rfl, hs, hg⟩
    exact ⟨0, k', rfl, fun h => by omega, fun _ => rfl, hs, hg⟩
  · refine (sn_nat (n : Int) (by omega) (by omega) B b zs k w h).mono ?_
    rintro e w' ⟨m, k', rfl, hm, hs, hg⟩
    exact ⟨m, k', rfl, fun _ => by omega, fun h => absurd h h0, hs, hg⟩

/-- A list of numbers that has been laid whole. -/
def intRow (ss : List Int) : Array Value := (ss.map (Value.int .i64)).toArray
theorem int_cell {w : World} {lb : Nat} {ss : List Int} {t : TypeId} (h : w.heap[lb]? = some (.cells (intRow ss) t (0, 0))) (m : Nat) (hm : m < ss.length) : w.cell? ⟨lb, m, none⟩ = some (.int .i64 (ss[m])) := by
  simp [World.cell?, h, intRow, hm]

set_option maxHeartbeats 400000 in
theorem pick_any (lb : Nat) (ss : List Int) (t : TypeId) (hss : 1 ≤ ss.length) (hss' : ss.length ≤ 1000) (B b : Nat) (zs : List Int) (k : Nat) (w : World) (h : SrcAt w B b zs k) (hl : w.heap[lb]? = some (.cells (intRow ss) t (0, 0))) (hne : lb ≠ b) :
    Calls Tryz.prog 48 #[.pointer (some ⟨b, 0, none⟩), .slice (some ⟨lb, 0, none⟩) ss.length ss.length] w fun e w' => ∃ (s : Int) (k' : Nat), e = .returned (.int .i64 s) ∧ s ∈ ss ∧ SrcAt w' B b zs k' ∧ w.grownBy w' (some b) := by
  have H := hidIt h
  have HL := hidIt hl
  clear h hl
  go_enter Tryz.func48, Tryz.ntmps48
  go_wp2_with fail
  refine (sn_nat _ (by omega) (by omega) B b zs k _ H.out).mono ?_
  rintro e w' ⟨m, k', rfl, hm, hs, hg⟩
  have hm' : m < ss.length := by omega
  have hc : w'.cell? ⟨lb, m, none⟩ = some (.int .i64 (ss[m])) := hg.cell (int_cell HL.out m hm') (fun e => hne (by injection e))
  have HS := hidIt hs; have HG := hidIt hg; clear hs hg
  have hmem : Hid (ss[m] ∈ ss) := List.getElem_mem hm'
  generalize ss[m] = s at hc hmem
  go_wp2
  go_ret
  exact ⟨s, k', rfl, hmem.out, HS.out, HG.out⟩

set_option maxRecDepth 100000 in
set_option maxHeartbeats 2000000 in
theorem slits2_any (most n : Nat) (hm : most ≤ 1000) (hn : 1 ≤ n) (hn' : n ≤ 26) (B b : Nat) (zs : List Int) (k : Nat) (w : World) (h : SrcAt w B b zs k) :
    Calls Tryz.prog 22 #[.pointer (some ⟨b, 0, none⟩), .int .i64 (most : Int), .int .i64 (n : Int)] w fun e w' => ∃ (v : Value) (xs : List Lt) (q : Nat), e = .returned v ∧ OwnL w' w.heap.size v xs ∧ xs.length ≤ most ∧ Letters n xs ∧ SrcAt w' B b zs q ∧ w.grownBy w' (some b) := by
  obtain ⟨i0, hi, hz0, hz1, hz2⟩ := info_parts infoL
  have H := hidIt h
  have hlt := h.lt
  clear h
  go_enter Tryz.func22, Tryz.ntmps22
  go_wp2_with fail
  refine (sn_nat ((most : Int) + 1) (by omega) (by omega) B b zs k _ H.out).mono ?_
  rintro e w1 ⟨m, k1, rfl, hmm, hs1, hg1⟩
  have HS1 := hidIt hs1
  have HG1 := hidIt hg1
  clear hs1 hg1 H
  go_wp2_with fail
  go_loopw [7, 8] (fun v i wr => ∃ (r q : Nat) (xs : List Lt), i = .int .i64 r ∧ r + xs.length ≤ most ∧ Hid (OwnL wr w.heap.size v xs) ∧ Hid (Letters n xs) ∧ Hid (SrcAt wr B b zs q) ∧ Hid (w.grownBy wr (some b))) (fun _ i _ => (intOf i).toNat)
  case atStart => exact ⟨m, k1, [], rfl, by simp; omega, OwnL.nil _ _, (show Letters n [] from by unfold Letters; simp), HS1.out, HG1.out⟩
  case round =>
    clear HS1 HG1
    obtain ⟨r, q, xs, rfl, hr, hown, hsh, hsrc, hgr⟩ := hrel
    by_cases hpos : 0 < r
    · go_wp2_with fail
      refine (slit_any (n : Int) (by omega) (by omega) B b zs q _ hsrc.out).mono ?_
      rintro e w2 ⟨g, mm, q2, rfl, hmm2, hs2, hg2⟩
      have HO2 := hidIt (hown.out.kept hg2 (fun g e => by injection e with e; omega))
      have HS2 := hidIt hs2
      have HG2 := hidIt (only_trans hgr.out hg2)
      clear hs2 hg2
      have hown3 := World.ownsRow.alloc HO2.out (.cells #[.bool g, .string (letter mm)] 46)
      go_wp2_with (at_builtin; refine wpList_append_own _ rfl _ _ 44 rfl w.heap.size 46 i0 _ 2 24 Tryz.underlying44 hi hz0 hz1 hz2 rfl (by decide) _ _ _ rfl hown3 ⟨w2.heap.size, 0, none⟩ 1 1 [.bool g, .string (letter mm)] rfl rfl ?c1 ?c2 ?c3 ?c4 ?c5 ?_)
      case c1 =>
        intro j u hj
        have hnew := heap_alloc_new w2 (.cells #[.bool g, .string (letter mm)] 46)
        match j, hj with
        | 0, hj => simp only [List.getElem?_cons_zero, Option.some.injEq] at hj; rw [← hj]; simp only [Addr.add]; exact cell_two0 hnew
        | 1, hj => simp only [List.getElem?_cons_succ, List.getElem?_cons_zero, Option.some.injEq] at hj; rw [← hj]; simp only [Addr.add]; exact cell_two1 hnew
        | j + 2, hj => simp at hj
      case c2 =>
        intro u hu
        simp only [List.mem_cons, List.not_mem_nil, or_false] at hu
        rcases hu with rfl | rfl <;> rfl
      case c3 => unfold maxLen; omega
      case c4 => omega
      case c5 => have := HG2.out.size; simp; omega
      intro v' w3 hown4 hg3 _
      have HO4 : Hid (OwnL w3 w.heap.size v' (xs ++ [⟨g, letter mm⟩])) := by
        show World.ownsRow _ _ _ _ _ _ _
        rw [flatL_append, List.length_append, flatL_one_lit]
        exact hown4
      have hr0 : ∀ gg, u7.ownBlock = some gg → w.heap.size ≤ gg := fun gg e => (hown.out.own_block gg e).1
      have HS3 := hidIt ((HS2.out.alloc (.cells #[.bool g, .string (letter mm)] 46)).own hg3 hr0 hlt)
      have HG3 := hidIt (only_own (only_alloc HG2.out (.cells #[.bool g, .string (letter mm)] 46)) hg3 hr0)
      clear hown4 hg3 hown3 hr0
      go_wp2
      go_roundw
      case rel => exact ⟨r - 1, q2, xs ++ [(⟨g, letter mm⟩ : Lt)], by go_num, by rw [List.length_append]; simp; omega, HO4, letters_snoc hsh.out (x := ⟨g, letter mm⟩) ⟨mm, by omega, rfl⟩, HS3, HG3⟩
      case measure => simp [intOf]; omega
    · go_wp2
      go_ret
      exact ⟨_, xs, q, rfl, hown.out, by omega, hsh.out, hsrc.out, hgr.out⟩
end Go.Proofs.YtfcoplplkbeljaaGreatDoor

namespace Go.Proofs.YtfcoplplkbeljaaGreatDoor
set_option linter.unusedVariables false
set_option linter.unusedSimpArgs false
open Go Go.RowKit

theorem run_copy_k {P : Program} (w : World) (dT sT ty elem : TypeId) (k g o dLen dCap : Nat) (a : Addr) (sLen sCap n : Nat) (cur : Array Value) (t : TypeId) (cs : List Value)
    (hu : P.underlying dT = some (.slice elem)) (hs : (P.info? elem).map (·.size) = some k)
    (hg : w.heap[g]? = some (.cells cur t (0, 0))) (hn : Nat.min sLen dLen = n) (hcs : cs.length = n * k)
    (hsrc : ∀ j v, cs[j]? = some v → w.cell? (a.add j) = some v) (hfit : o + cs.length ≤ cur.size) (h1 : ∀ v ∈ cs, v.oneCell' = true) :
    (Builtin.copy_ #[dT, sT] ty #[.slice (some ⟨g, o, none⟩) dLen dCap, .slice (some a) sLen sCap]).run P w =
      .ok (goInt n) (w.setRow g (cur.toList.take o ++ cs ++ cur.toList.drop (o + cs.length)).toArray) := by
  have hl := run_loadCells_list (P := P) w a cs hsrc
  have hst := run_storeCells_at P g o t cs 0 cur w hg (by simpa using hfit) h1
  cases hq : P.info? elem with
  | none => simp [hq] at hs
  | some i =>
    have hi : i.size = k := by simpa [hq] using hs
    simp [Builtin.copy_, run_underlying hu, Builtin.lenOf, Builtin.firstCells, sizeOf, typeInfo, hq, hi, hn, ← hcs, hl, hst]


/-- Where the elements of an owned row stand. -/
theorem owns_row {w : World} {B : Nat} {e : TypeId} {k : Nat} {g n cap : Nat} {xs : List Value} (h : w.ownsRow B e k (.slice (some ⟨g, 0, none⟩) n cap) n xs) :
    ∃ cur : Array Value, B ≤ g ∧ w.heap[g]? = some (.cells cur e (0, 0)) ∧ n ≤ cap ∧ cap ≤ maxLen ∧ cur.size = cap * k ∧ cur.toList.take (n * k) = xs := by
  rcases h.2 with ⟨h0, h1⟩ | ⟨g', cap', cur, hv, hB, hg, h1, h2, h3, h4⟩
  · cases h0
  · injection hv with hv _ hv2
    injection hv with hv
    injection hv with hv
    subst hv hv2
    exact ⟨cur, hB, hg, h1, h2, h3, h4⟩

/-- A row of n + 1 elements, the last whatever: what stands from k on goes one place up. -/
theorem copy_up {P : Program} (w : World) (T ty e : TypeId) (B : Nat) (hu : P.underlying T = some (.slice e)) (hs : (P.info? e).map (·.size) = some 2) (g n k cap : Nat) (hk : k ≤ n) (xs zz : List Value) (hx : xs.length = n * 2) (hzz : zz.length = 2)
    (h : w.ownsRow B e 2 (.slice (some ⟨g, 0, none⟩) (n + 1) cap) (n + 1) (xs ++ zz)) (h1 : ∀ u ∈ xs, u.oneCell' = true) :
    ∃ w', (Builtin.copy_ #[T, T] ty #[.slice (some ⟨g, (k + 1) * 2, none⟩) (n + 1 - (k + 1)) (cap - (k + 1)), .slice (some ⟨g, k * 2, none⟩) (n + 1 - k) (cap - k)]).run P w = .ok (goInt ((n - k : Nat) : Int)) w' ∧
      ∃ y : List Value, y.length = 2 ∧ w'.ownsRow B e 2 (.slice (some ⟨g, 0, none⟩) (n + 1) cap) (n + 1) (xs.take (k * 2) ++ (y ++ xs.drop (k * 2))) ∧ w.grownBy w' (some g) := by
  obtain ⟨cur, hB, hg, hc1, hc2, hc3, hc4⟩ := owns_row h
  have hcl : cur.toList.length = cap * 2 := by rw [Array.length_toList, hc3]
  have hgt : ∀ j, j < (n + 1) * 2 → cur.toList[j]? = (xs ++ zz)[j]? := fun j hj => by
    rw [← hc4, List.getElem?_take, if_pos hj]
  have hd : (xs.drop (k * 2)).length = (n - k) * 2 := by rw [List.length_drop, hx, Nat.sub_mul]
  have hkn : k * 2 ≤ n * 2 := Nat.mul_le_mul_right 2 hk
  have hr := run_copy_k (P := P) w T T ty e 2 g ((k + 1) * 2) (n + 1 - (k + 1)) (cap - (k + 1)) ⟨g, k * 2, none⟩ (n + 1 - k) (cap - k) (n - k) cur e (xs.drop (k * 2)) hu hs hg (by show min _ _ = _; omega) hd (fun j v hj => by
    have hjl : j < (n - k) * 2 := by rw [← hd]; exact (List.getElem?_eq_some_iff.1 hj).1
    have e1 : (⟨g, k * 2, none⟩ : Addr).add j = ⟨g, k * 2 + j, none⟩ := by unfold Addr.add; split <;> simp_all
    rw [e1]
    rw [List.getElem?_drop] at hj
    have h2 := hgt (k * 2 + j) (by omega)
    rw [List.getElem?_append_left (by omega), hj] at h2
    simp only [World.cell?, hg]
    simpa using h2) (by rw [hd, hc3]; have := Nat.mul_le_mul_right 2 hc1; omega) (fun v hv => h1 v (List.mem_of_mem_drop hv))
  refine ⟨_, hr, (cur.toList.drop (k * 2)).take 2, by rw [List.length_take, List.length_drop, hcl]; have := Nat.mul_le_mul_right 2 hc1; omega, ⟨by simp [hx]; have := Nat.mul_le_mul_right 2 hc1; omega, .inr ⟨g, cap, _, rfl, hB, setRow_heap w g cur _ e _ hg, hc1, hc2, ?_, ?_⟩⟩, ?_⟩
  · have := Nat.mul_le_mul_right 2 hc1
    simp [hd]
    omega
  · have hcc := Nat.mul_le_mul_right 2 hc1
    apply List.ext_getElem?
    intro j
    rw [List.getElem?_take]
    by_cases hj : j < (n + 1) * 2
    · rw [if_pos hj]
      simp only [List.append_assoc]
      by_cases hj1 : j < k * 2
      · rw [List.getElem?_append_left (by simp; omega), List.getElem?_append_left (by simp; omega), List.getElem?_take, List.getElem?_take, if_pos (by omega), if_pos hj1, hgt j (by omega), List.getElem?_append_left (by omega)]
      · by_cases hj2 : j < (k + 1) * 2
        · rw [List.getElem?_append_left (by simp; omega), List.getElem?_append_right (by simp; omega), List.getElem?_append_left (by simp; omega), List.getElem?_take, if_pos hj2, List.getElem?_take, List.getElem?_drop]
          have e1 : (List.take (k * 2) xs).length = k * 2 := by rw [List.length_take]; omega
          rw [e1, if_pos (by omega)]
          congr 1
          omega
        · have e1 : (List.take (k * 2) xs).length = k * 2 := by rw [List.length_take]; omega
          have e2 : (List.take ((k + 1) * 2) cur.toList).length = (k + 1) * 2 := by rw [List.length_take]; omega
          have e3 : (List.take 2 (List.drop (k * 2) cur.toList)).length = 2 := by rw [List.length_take, List.length_drop]; omega
          rw [List.getElem?_append_right (by omega), List.getElem?_append_left (by rw [hd, e2]; omega), List.getElem?_append_right (by omega), List.getElem?_append_right (by omega), e1, e2, e3]
          congr 1
          omega
    · rw [if_neg hj]
      symm
      apply List.getElem?_eq_none
      have e1 : (List.take (k * 2) xs).length = k * 2 := by rw [List.length_take]; omega
      have e3 : (List.take 2 (List.drop (k * 2) cur.toList)).length = 2 := by rw [List.length_take, List.length_drop]; omega
      rw [List.length_append, List.length_append, e1, e3, hd]
      omega
  · exact ⟨rfl, rfl, rfl, by simp [World.setRow], fun i hi hne => setRow_other w g i _ (fun e => hne (by rw [e]))⟩
theorem run_copy_none {P : Program} (w : World) (T ty e : TypeId) (hu : P.underlying T = some (.slice e)) (hs : (P.info? e).map (·.size) = some 2) (g sLen sCap dCap : Nat) (a : Addr) (cur : Array Value) (t : TypeId) (hg : w.heap[g]? = some (.cells cur t (0, 0))) :
    (Builtin.copy_ #[T, T] ty #[.slice (some ⟨g, 0, none⟩) 0 dCap, .slice (some a) sLen sCap]).run P w = .ok (goInt ((0 : Nat) : Int)) (w.setRow g (cur.toList.take 0 ++ [] ++ cur.toList.drop (0 + ([] : List Value).length)).toArray) :=
  run_copy_k (P := P) w T T ty e 2 g 0 0 dCap a sLen sCap 0 cur t [] hu hs hg (by show min _ _ = _; omega) rfl (fun j v hj => by simp at hj) (by simp) (fun v hv => by simp at hv)

/-- The same, where the place behind the last may be the end of the room. -/
theorem copy_up2 {P : Program} (w : World) (T ty e : TypeId) (B : Nat) (hu : P.underlying T = some (.slice e)) (hs : (P.info? e).map (·.size) = some 2) (g n k cap : Nat) (hk : k ≤ n) (xs zz : List Value) (hx : xs.length = n * 2) (hzz : zz.length = 2)
    (h : w.ownsRow B e 2 (.slice (some ⟨g, 0, none⟩) (n + 1) cap) (n + 1) (xs ++ zz)) (h1 : ∀ u ∈ xs, u.oneCell' = true) :
    ∃ w' r, (Builtin.copy_ #[T, T] ty #[.slice (if cap = k + 1 then some ⟨g, 0, none⟩ else some ⟨g, (k + 1) * 2, none⟩) (n - k) (cap - (k + 1)), .slice (some ⟨g, k * 2, none⟩) (n + 1 - k) (cap - k)]).run P w = .ok r w' ∧
      ∃ y : List Value, y.length = 2 ∧ w'.ownsRow B e 2 (.slice (some ⟨g, 0, none⟩) (n + 1) cap) (n + 1) (xs.take (k * 2) ++ (y ++ xs.drop (k * 2))) ∧ w.grownBy w' (some g) := by
  by_cases hc : cap = k + 1
  · obtain ⟨cur, hB, hg, hc1, hc2, hc3, hc4⟩ := owns_row h
    have hkn : k = n := by omega
    subst hkn
    rw [if_pos hc, Nat.sub_self]
    refine ⟨_, _, run_copy_none w T ty e hu hs g _ _ _ _ cur e hg, zz, hzz, ?_, ?_⟩
    · have e1 : (cur.toList.take 0 ++ [] ++ cur.toList.drop (0 + ([] : List Value).length)).toArray = cur := by simp
      rw [e1, List.take_of_length_le (by omega), List.drop_of_length_le (by omega), List.append_nil]
      exact ⟨h.1, .inr ⟨g, cap, cur, rfl, hB, setRow_heap w g cur cur e _ hg, hc1, hc2, hc3, hc4⟩⟩
    · exact ⟨rfl, rfl, rfl, by simp [World.setRow], fun i hi hne => setRow_other w g i _ (fun e => hne (by rw [e]))⟩
  · obtain ⟨w', hr, y, hy⟩ := copy_up (P := P) w T ty e B hu hs g n k cap hk xs zz hx hzz h h1
    rw [if_neg hc, show n - k = n + 1 - (k + 1) by omega]
    exact ⟨w', _, hr, y, hy⟩
end Go.Proofs.YtfcoplplkbeljaaGreatDoor

namespace Go.Proofs.YtfcoplplkbeljaaGreatDoor
set_option linter.unusedVariables false
set_option linter.unusedSimpArgs false
open Go Go.RowKit Go.Sort

theorem blK : ∀ a b : List UInt8, Op.bytesLess a b = decide (Lib.compareBytes a b < 0)
  | [], [] => by simp [Op.bytesLess, Lib.compareBytes]
  | [], b :: bt1 => by simp [Op.bytesLess, Lib.compareBytes]
  | a :: at1, [] => by simp [Op.bytesLess, Lib.compareBytes]
  | a :: at1, b :: bt1 => by
    have ih := blK at1 bt1
    by_cases h1 : a < b
    · have h2 : ¬ b < a := by rw [UInt8.lt_iff_toNat_lt] at *; omega
      simp [Op.bytesLess, Lib.compareBytes, h1, h2]
    · by_cases h2 : b < a
      · have h3 : a ≠ b := fun e => by subst e; exact h1 h2
        simp [Op.bytesLess, Lib.compareBytes, h1, h2, h3]
      · have e : a = b := by
          rw [UInt8.lt_iff_toNat_lt] at *
          exact UInt8.toNat_inj.1 (by omega)
        subst e
        simp [Op.bytesLess, Lib.compareBytes, h1, ih]

/-- Does y stand before x? (As the call asks it.) -/
def ltB (y x : Lt) : Bool := Op.bytesLess y.name.toList x.name.toList || ((y.name.toList == x.name.toList) && (!y.neg && x.neg))
theorem ltB_eq (y x : Lt) : ltB y x = ltOf cmpI y x := by
  unfold ltB ltOf
  rw [blK]
  cases hn : (y.name.toList == x.name.toList)
  · have : cmpI y x = Lib.compareBytes y.name.data.toList x.name.data.toList := by simp [cmpI, hn]
    rw [this, Lib.toList_data, Lib.toList_data]
    simp
  · have he : y.name = x.name := by rw [names_same] at hn; exact of_decide_eq_true hn
    rw [he, cb_self]
    simp only [cmpI, hn]
    cases y.neg <;> cases x.neg <;> simp [he]
theorem ins_up {ys : List Lt} {x : Lt} {k : Nat} (hup : ys.Pairwise fun a b => ltOf cmpI a b = true) (hb : ∀ j (hj : j < ys.length), j < k → ltOf cmpI ys[j] x = true) (ha : ∀ h : k < ys.length, ltOf cmpI x ys[k] = true) :
    (ys.take k ++ x :: ys.drop k).Pairwise fun a b => ltOf cmpI a b = true := by
  have hsplit : (ys.take k ++ ys.drop k).Pairwise fun a b => ltOf cmpI a b = true := by rw [List.take_append_drop]; exact hup
  obtain ⟨h1, h2, h3⟩ := List.pairwise_append.1 hsplit
  have hx : ∀ b ∈ ys.drop k, ltOf cmpI x b = true := fun b hb2 => by
    obtain ⟨j, hj, rfl⟩ := List.getElem_of_mem hb2
    rw [List.length_drop] at hj
    rw [List.getElem_drop]
    by_cases h0 : j = 0
    · subst h0
      exact ha (by omega)
    · exact swo.trans _ _ _ (ha (by omega)) (List.pairwise_iff_getElem.1 hup k (k + j) (by omega) (by omega) (by omega))
  refine List.pairwise_append.2 ⟨h1, List.pairwise_cons.2 ⟨hx, h2⟩, fun a hat b hbt => ?_⟩
  rcases List.mem_cons.1 hbt with rfl | hbt
  · obtain ⟨j, hj, rfl⟩ := List.getElem_of_mem hat
    rw [List.length_take] at hj
    rw [List.getElem_take]
    exact hb j (by omega) (by omega)
  · exact h3 a hat b hbt
theorem ins_len (ys : List Lt) (x : Lt) (k : Nat) : (ys.take k ++ x :: ys.drop k).length = ys.length + 1 := by
  rw [List.length_append, List.length_cons, List.length_take, List.length_drop]
  omega
theorem ins_mem {ys : List Lt} {x y : Lt} {k : Nat} (h : y ∈ ys.take k ++ x :: ys.drop k) : y = x ∨ y ∈ ys := by
  rcases List.mem_append.1 h with h | h
  · exact .inr (List.mem_of_mem_take h)
  · rcases List.mem_cons.1 h with h | h
    · exact .inl h
    · exact .inr (List.mem_of_mem_drop h)
/-- An owned list of literals: its header, its cells. -/
theorem OwnL.form5 {w : World} {B : Nat} {v : Value} {ys : List Lt} (h : OwnL w B v ys) : ∃ (a : Option Addr) (cap : Nat), v = .slice a ys.length cap ∧ ys.length ≤ cap ∧ cap ≤ maxLen ∧
    ∀ i (h : i < ys.length), ∃ g : Nat, a = some ⟨g, 0, none⟩ ∧ B ≤ g ∧ g < w.heap.size ∧ w.cell? ⟨g, i * 2, none⟩ = some (.bool (ys[i]).neg) ∧ w.cell? ⟨g, i * 2 + 1, none⟩ = some (.string (ys[i]).name) := by
  rcases h.2 with ⟨rfl, h0⟩ | ⟨g, cap, cur, hv, hB, hg, hnc, hcm, hcs, htk⟩
  · exact ⟨none, 0, by rw [h0], by omega, by unfold maxLen; omega, fun i hi => by omega⟩
  · refine ⟨_, cap, hv, hnc, hcm, fun i hi => ⟨g, rfl, hB, lt_of_block hg, ?_, ?_⟩⟩
    · refine owns_cell h hv (i * 2) _ ?_
      rw [flatL_eq, show i * 2 = i * 2 + 0 by omega, flat_get encL 2 encL_len ys i 0 hi (by omega)]
      rfl
    · refine owns_cell h hv (i * 2 + 1) _ ?_
      rw [flatL_eq, flat_get encL 2 encL_len ys i 1 hi (by omega)]
      rfl
theorem OwnL.cell5 {w : World} {B : Nat} {a : Option Addr} {n c : Nat} {ys : List Lt} (h : OwnL w B (.slice a n c) ys) : ∀ i (h : i < ys.length), ∃ g : Nat, a = some ⟨g, 0, none⟩ ∧ B ≤ g ∧ g < w.heap.size ∧ w.cell? ⟨g, i * 2, none⟩ = some (.bool (ys[i]).neg) ∧ w.cell? ⟨g, i * 2 + 1, none⟩ = some (.string (ys[i]).name) := by
  obtain ⟨a', c', hv, -, -, hc⟩ := h.form5
  injection hv with hv
  subst hv
  exact hc
theorem OwnL.go {w w' : World} {B : Nat} {v : Value} {ys : List Lt} (h : OwnL w B v ys) (hb : Below w.heap.size w w') : OwnL w' B v ys := owns_kept h fun g e => hb.block g (h.own_block g e).2
theorem OwnL.body {w : World} {B : Nat} {v : Value} {ys : List Lt} (h : OwnL w B v ys) : BodyAt w v ys := by
  rcases h.2 with ⟨rfl, h0⟩ | ⟨g, cap, cur, hv, hB, hg, hnc, hcm, hcs, htk⟩
  · exact .inl ⟨noRow_nil, List.eq_nil_of_length_eq_zero h0⟩
  · refine .inr ⟨g, 0, cap, hv, hnc, hcm, lt_of_block hg, fun i hi => ⟨?_, ?_⟩⟩
    · refine owns_cell h hv (0 + i * 2) _ ?_
      rw [flatL_eq, show 0 + i * 2 = i * 2 + 0 by omega, flat_get encL 2 encL_len ys i 0 hi (by omega)]
      rfl
    · refine owns_cell h hv (0 + i * 2 + 1) _ ?_
      rw [flatL_eq, show 0 + i * 2 + 1 = i * 2 + 1 by omega, flat_get encL 2 encL_len ys i 1 hi (by omega)]
      rfl
/-- Room at place k, filled. -/
theorem put_lit {w : World} {B g n cap k : Nat} {ys : List Lt} {x : Lt} {y : List Value} (hk : k ≤ ys.length) (hn : n = ys.length + 1) (hy : y.length = 2) (h : w.ownsRow B 46 2 (.slice (some ⟨g, 0, none⟩) n cap) n ((flatL ys).take (k * 2) ++ (y ++ (flatL ys).drop (k * 2)))) :
    OwnL ((w.setCell ⟨g, k * 2, none⟩ (.bool x.neg)).setCell ⟨g, k * 2 + 1, none⟩ (.string x.name)) B (.slice (some ⟨g, 0, none⟩) n cap) (ys.take k ++ x :: ys.drop k) := by
  have h1 := (World.ownsRow.stored h (k * 2) (.bool x.neg)).1
  have h2 := (World.ownsRow.stored h1 (k * 2 + 1) (.string x.name)).1
  have hl : (flatL ys).length = ys.length * 2 := flatL_len ys
  have ht : ((flatL ys).take (k * 2)).length = k * 2 := by rw [List.length_take, hl]; omega
  have e : (((flatL ys).take (k * 2) ++ (y ++ (flatL ys).drop (k * 2))).set (k * 2) (.bool x.neg)).set (k * 2 + 1) (.string x.name) = flatL (ys.take k ++ x :: ys.drop k) := by
    match y, hy with
    | [u0, u1], _ =>
      rw [List.set_append_right _ _ (by omega), ht, Nat.sub_self]
      show ((flatL ys).take (k * 2) ++ ([Value.bool x.neg, u1] ++ (flatL ys).drop (k * 2))).set (k * 2 + 1) _ = _
      rw [List.set_append_right _ _ (by omega), ht, Nat.add_sub_cancel_left]
      show (flatL ys).take (k * 2) ++ ([Value.bool x.neg, .string x.name] ++ (flatL ys).drop (k * 2)) = _
      have e1 : flatL (ys.take k) = (flatL ys).take (k * 2) := by
        have := congrArg (List.take (k * 2)) (flatL_append (ys.take k) (ys.drop k))
        rw [List.take_append_drop, List.take_append_of_le_length (by rw [flatL_len, List.length_take]; omega), List.take_of_length_le (l := flatL (ys.take k)) (by rw [flatL_len, List.length_take]; omega)] at this
        exact this.symm
      have e2 : flatL (ys.drop k) = (flatL ys).drop (k * 2) := by
        have := congrArg (List.drop (k * 2)) (flatL_append (ys.take k) (ys.drop k))
        rw [List.take_append_drop, List.drop_append_of_le_length (by rw [flatL_len, List.length_take]; omega), List.drop_of_length_le (l := flatL (ys.take k)) (by rw [flatL_len, List.length_take]; omega)] at this
        exact this.symm
      rw [show ys.take k ++ x :: ys.drop k = ys.take k ++ ([x] ++ ys.drop k) by rfl, flatL_append, flatL_append, flatL_one_lit, e1, e2]
  unfold OwnL
  rw [ins_len, ← hn, ← e]
  exact h2
end Go.Proofs.YtfcoplplkbeljaaGreatDoor
