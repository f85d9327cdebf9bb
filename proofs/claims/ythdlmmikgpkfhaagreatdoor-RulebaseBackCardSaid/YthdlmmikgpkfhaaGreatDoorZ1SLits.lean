/- The call that builds a list of literals out of numbers (package keep), and append at lists of literals. -/
import Derived.Test.YthdlmmikgpkfhaaGreatDoorZ1A
import Derived.Test.YthdlmmikgpkfhaaGreatDoorOdd
import Derived.OwnWalk

namespace Go.Proofs.YthdlmmikgpkfhaaGreatDoor
set_option linter.unusedVariables false
set_option linter.unusedSimpArgs false
open Go.RowKit Go.Sort

theorem flatL_nil : flatL [] = [] := by
  apply List.eq_nil_of_length_eq_zero
  rw [flatL_len]
  rfl

theorem flatMap_get : ∀ (xs : List Lt) (j : Nat), j < xs.length * 2 → (xs.flatMap encL)[j]? = some ((encL xs[j / 2]!)[j % 2]!)
  | [], j, h => by simp at h
  | x :: r, j, h => by
    rw [List.flatMap_cons]
    match j with
    | 0 => rfl
    | 1 => rfl
    | j + 2 =>
      have ih := flatMap_get r j (by simp at h; omega)
      rw [show (j + 2) / 2 = j / 2 + 1 by omega, show (j + 2) % 2 = j % 2 by omega]
      exact ih

theorem flatMap_len (xs : List Lt) : (xs.flatMap encL).length = xs.length * 2 := by
  induction xs with
  | nil => rfl
  | cons x r ih => rw [List.flatMap_cons, List.length_append, ih, encL_len, List.length_cons]; omega

theorem flatL_eq (xs : List Lt) : flatL xs = xs.flatMap encL := by
  apply List.ext_getElem?
  intro j
  by_cases h : j < xs.length * 2
  · rw [flatL_get xs j h, flatMap_get xs j h]
  · rw [List.getElem?_eq_none (by rw [flatL_len]; omega), List.getElem?_eq_none (by rw [flatMap_len]; omega)]

theorem flatL_append (xs ys : List Lt) : flatL (xs ++ ys) = flatL xs ++ flatL ys := by
  rw [flatL_eq, flatL_eq, flatL_eq, List.flatMap_append]

theorem flatL_one_lit (x : Lt) : flatL [x] = [.bool x.neg, .string x.name] := by rw [flatL_eq]; rfl

/-- The value is a list of literals that the call owns, from block B on. -/
def OwnL (w : World) (B : Nat) (v : Value) (xs : List Lt) : Prop := w.ownsRow B 28 2 v xs.length (flatL xs)

theorem OwnL.lits {w : World} {B : Nat} {v : Value} {xs : List Lt} (h : OwnL w B v xs) : OwnLits w B v xs := by
  by_cases hn : v = .slice none 0 0
  · obtain ⟨_, h | ⟨g, cap, cur, h1, _⟩⟩ := h
    · exact .inl ⟨h.1, List.eq_nil_of_length_eq_zero h.2⟩
    · rw [h1] at hn; cases hn
  · exact holds_of_owns h hn

theorem OwnL.nil (w : World) (B : Nat) : OwnL w B (.slice none 0 0) [] := by
  unfold OwnL
  rw [flatL_nil]
  exact World.ownsRow_nil w B _ _

theorem OwnL.own_block {w : World} {B : Nat} {v : Value} {xs : List Lt} (h : OwnL w B v xs) : ∀ g, v.ownBlock = some g → B ≤ g ∧ g < w.heap.size := World.ownsRow.lt h

theorem OwnL.kept {w w' : World} {B : Nat} {v : Value} {xs : List Lt} {row : Option Nat} (h : OwnL w B v xs) (hg : w.grownBy w' row) (hr : ∀ g, row = some g → g < B) : OwnL w' B v xs := by
  refine World.ownsRow.kept h hg ?_
  cases hv : v.ownBlock with
  | none => exact .inl rfl
  | some g =>
    refine .inr (fun e => ?_)
    have h1 := (h.own_block g hv).1
    have h2 := hr g e.symm
    omega

theorem only_own {w a a' : World} {b : Nat} {row : Option Nat} (h : w.grownBy a (some b)) (hg : a.grownBy a' row) (hr : ∀ g, row = some g → w.heap.size ≤ g) : w.grownBy a' (some b) :=
  ⟨hg.os.trans h.os, hg.tape.trans h.tape, hg.output.trans h.output, Nat.le_trans h.size hg.size, fun k hk hne => (hg.block k (Nat.lt_of_lt_of_le hk h.size) (fun e => by have := hr k e.symm; omega)).trans (h.block k hk hne)⟩

theorem SrcAt.own {w w' : World} {B b : Nat} {zs : List Int} {k Bo : Nat} {row : Option Nat} (h : SrcAt w B b zs k) (hg : w.grownBy w' row) (hr : ∀ g, row = some g → Bo ≤ g) (hb : b < Bo) : SrcAt w' B b zs k :=
  h.kept hg (fun g e => ⟨by have := hr g e; have := h.base; omega, by have := hr g e; omega⟩)

/-- All names are of one letter at most. -/
def Short1 (xs : List Lt) : Prop := ∀ x ∈ xs, x.name.size ≤ 1

theorem short_snoc {xs : List Lt} {x : Lt} (h : Short1 xs) (hx : x.name.size ≤ 1) : Short1 (xs ++ [x]) := fun y hy => by
  rcases List.mem_append.1 hy with h1 | h1
  · exact h y h1
  · rw [List.mem_singleton.1 h1]; exact hx

set_option maxRecDepth 100000 in
set_option maxHeartbeats 2000000 in
theorem slits_any (most n : Nat) (hm : most ≤ 1000) (hn : 1 ≤ n) (hn' : n ≤ 26) (B b : Nat) (zs : List Int) (k : Nat) (w : World) (h : SrcAt w B b zs k) :
    Calls Tryz.prog 38 #[.pointer (some ⟨b, 0, none⟩), .int .i64 (most : Int), .int .i64 (n : Int)] w fun e w' => ∃ (v : Value) (xs : List Lt) (q : Nat), e = .returned v ∧ OwnL w' w.heap.size v xs ∧ xs.length ≤ most ∧ Short1 xs ∧ SrcAt w' B b zs q ∧ w.grownBy w' (some b) := by
  obtain ⟨i0, hi, hz0, hz1, hz2⟩ := info_parts infoL
  have H := hidIt h
  have hlt := h.lt
  clear h
  go_enter Tryz.func38, Tryz.ntmps38
  go_wp2_with fail
  refine (sn_nat ((most : Int) + 1) (by omega) (by omega) B b zs k _ H.out).mono ?_
  rintro e w1 ⟨m, k1, rfl, hmm, hs1, hg1⟩
  have HS1 := hidIt hs1
  have HG1 := hidIt hg1
  clear hs1 hg1 H
  go_wp2_with fail
  go_loopw [7, 8] (fun v i wr => ∃ (r q : Nat) (xs : List Lt), i = .int .i64 r ∧ r + xs.length ≤ most ∧ Hid (OwnL wr w.heap.size v xs) ∧ Hid (Short1 xs) ∧ Hid (SrcAt wr B b zs q) ∧ Hid (w.grownBy wr (some b))) (fun _ i _ => (intOf i).toNat)
  case atStart => exact ⟨m, k1, [], rfl, by simp; omega, OwnL.nil _ _, (show Short1 [] from by unfold Short1; simp), HS1.out, HG1.out⟩
  case round =>
    clear HS1 HG1
    obtain ⟨r, q, xs, rfl, hr, hown, hsh, hsrc, hgr⟩ := hrel
    by_cases hpos : 0 < r
    · go_wp2_with fail
      refine (slit_any (n : Int) (by omega) (by omega) B b zs q _ hsrc.out).mono ?_
      rintro e w2 ⟨g, mm, q2, rfl, hmm2, hs2, hg2⟩
      have HO2 := hidIt (hown.out.kept hg2 (fun g e => by injection e with e; omega))
      have HS2 := hidIt hs2
      have HG2 := hidIt (only_trans hgr.out hg2)
      clear hs2 hg2
      have hown3 := World.ownsRow.alloc HO2.out (.cells #[.bool g, .string (letter mm)] 28)
      go_wp2_with (at_builtin; refine wpList_append_own _ rfl _ _ 58 rfl w.heap.size 28 i0 _ 2 24 Tryz.underlying58 hi hz0 hz1 hz2 rfl (by decide) _ _ _ rfl hown3 ⟨w2.heap.size, 0, none⟩ 1 1 [.bool g, .string (letter mm)] rfl rfl ?c1 ?c2 ?c3 ?c4 ?c5 ?_)
      case c1 =>
        intro j u hj
        have hnew := heap_alloc_new w2 (.cells #[.bool g, .string (letter mm)] 28)
        match j, hj with
        | 0, hj => simp only [List.getElem?_cons_zero, Option.some.injEq] at hj; rw [← hj]; simp only [Addr.add]; exact cell_two0 hnew
        | 1, hj => simp only [List.getElem?_cons_succ, List.getElem?_cons_zero, Option.some.injEq] at hj; rw [← hj]; simp only [Addr.add]; exact cell_two1 hnew
        | j + 2, hj => simp at hj
      case c2 =>
        intro u hu
        simp only [List.mem_cons, List.not_mem_nil, or_false] at hu
        rcases hu with rfl | rfl <;> rfl
      case c3 => unfold maxLen; omega
      case c4 => omega
      case c5 => have := HG2.out.size; simp; omega
      intro v' w3 hown4 hg3 _
      have HO4 : Hid (OwnL w3 w.heap.size v' (xs ++ [⟨g, letter mm⟩])) := by
        show World.ownsRow _ _ _ _ _ _ _
        rw [flatL_append, List.length_append, flatL_one_lit]
        exact hown4
      have hr0 : ∀ gg, u7.ownBlock = some gg → w.heap.size ≤ gg := fun gg e => (hown.out.own_block gg e).1
      have HS3 := hidIt ((HS2.out.alloc (.cells #[.bool g, .string (letter mm)] 28)).own hg3 hr0 hlt)
      have HG3 := hidIt (only_own (only_alloc HG2.out (.cells #[.bool g, .string (letter mm)] 28)) hg3 hr0)
      clear hown4 hg3 hown3 hr0
      go_wp2
      go_roundw
      case rel => exact ⟨r - 1, q2, xs ++ [(⟨g, letter mm⟩ : Lt)], by go_num, by rw [List.length_append]; simp; omega, HO4, short_snoc hsh.out (x := ⟨g, letter mm⟩) (Nat.le_refl 1), HS3, HG3⟩
      case measure => simp [intOf]; omega
    · go_wp2
      go_ret
      exact ⟨_, xs, q, rfl, hown.out, by omega, hsh.out, hsrc.out, hgr.out⟩
end Go.Proofs.YthdlmmikgpkfhaaGreatDoor
