/- What the parser computes: the formula that a text begins with, if there is one, and what is left of the text. -/
import Derived.Test.YtpiiadmjddikfaaDoorNext
import Derived.Test.YtpiiadmjddikfaaDoorForms
namespace Go.Proofs.YtpiiadmjddikfaaDoor
set_option linter.unusedVariables false
set_option linter.unusedSimpArgs false
open Go.RowKit

abbrev Rest := List UInt8

def pairP (op : Int) (sign : Rest) (left right : Rest → Option Tree × Rest) (r : Rest) : Option Tree × Rest :=
  match left r with
  | (some f, r1) =>
    if tok r1 = sign then
      match right (nxt r1) with
      | (some g, r2) => (some (.node op ⟨#[]⟩ [f, g]), r2)
      | (none, r2) => (none, r2)
    else (some f, r1)
  | (none, r1) => (none, r1)

def rowLoop (sign : Rest) (part : Rest → Option Tree × Rest) : Nat → List Tree → Rest → Option (List Tree) × Rest
  | 0, _, r => (none, r)
  | n + 1, l, r =>
    if tok r = sign then
      match part (nxt r) with
      | (some f, r1) => rowLoop sign part n (l ++ [f]) r1
      | (none, r1) => (none, r1)
    else (some l, r)

def rowP (op : Int) (sign : Rest) (part : Rest → Option Tree × Rest) (r : Rest) : Option Tree × Rest :=
  match part r with
  | (some f, r1) =>
    if tok r1 = sign then
      match rowLoop sign part (r1.length + 1) [f] r1 with
      | (some l, r2) => (some (.node op ⟨#[]⟩ l), r2)
      | (none, r2) => (none, r2)
    else (some f, r1)
  | (none, r1) => (none, r1)

/-- A negation of what was read. -/
def notP : Option Tree × Rest → Option Tree × Rest
  | (some f, r) => (some (.node 4 ⟨#[]⟩ [f]), r)
  | (none, r) => (none, r)
/-- The closing parenthesis. -/
def closeP : Option Tree × Rest → Option Tree × Rest
  | (some f, r) => if tok r = [41] then (some f, nxt r) else (none, r)
  | (none, r) => (none, r)

/-- The parser's functions by their rank: 0 equivalence, 1 implication, 2 disjunction, 3 conjunction, 4 negation, 5 primary, 6 group; n bounds the calls. -/
def pF : Nat → Nat → Rest → Option Tree × Rest
  | 0, _, r => (none, r)
  | n + 1, 0, r => pairP 8 [60, 45, 62] (pF n 1) (pF n 1) r
  | n + 1, 1, r => pairP 7 [45, 62] (pF n 2) (pF n 1) r
  | n + 1, 2, r => rowP 6 [124] (pF n 3) r
  | n + 1, 3, r => rowP 5 [38] (pF n 4) r
  | n + 1, 4, r =>
    if tok r = [126] then notP (pF n 4 (nxt r)) else pF n 5 r
  | n + 1, 5, r =>
    if tok r = [40] then pF n 6 r
    else if tok r = [48] then (some (.node 2 ⟨#[]⟩ []), nxt r)
    else if tok r = [49] then (some (.node 1 ⟨#[]⟩ []), nxt r)
    else if vn ⟨(tok r).toArray⟩ then (some (.node 3 ⟨(tok r).toArray⟩ []), nxt r)
    else (none, r)
  | n + 1, _, r => closeP (pF n 0 (nxt r))

theorem pF4 (n : Nat) (r : Rest) : pF (n + 1) 4 r = if tok r = [126] then notP (pF n 4 (nxt r)) else pF n 5 r := rfl
theorem pF5 (n : Nat) (r : Rest) : pF (n + 1) 5 r = if tok r = [40] then pF n 6 r
    else if tok r = [48] then (some (.node 2 ⟨#[]⟩ []), nxt r)
    else if tok r = [49] then (some (.node 1 ⟨#[]⟩ []), nxt r)
    else if vn ⟨(tok r).toArray⟩ then (some (.node 3 ⟨(tok r).toArray⟩ []), nxt r)
    else (none, r) := rfl
theorem pF6 (n k : Nat) (r : Rest) : pF (n + 1) (k + 6) r = closeP (pF n 0 (nxt r)) := rfl

theorem size_data (s : ByteArray) : s.data.toList.length = s.size := by rw [Array.length_toList]; rfl

theorem prefix_len {p l : List UInt8} (h : p.isPrefixOf l = true) : p.length ≤ l.length := (List.isPrefixOf_iff_prefix.1 h).length_le
theorem tok_len (l : List UInt8) : (tok l).length ≤ l.length := by
  unfold tok
  cases h : sgn.find? (fun p => p.isPrefixOf l) with
  | some p =>
    have hp := List.find?_some (p := fun p : List UInt8 => p.isPrefixOf l) h
    exact prefix_len hp
  | none =>
    show (wordTok l).length ≤ l.length
    simp only [wordTok]
    split
    · exact (List.takeWhile_prefix inW).length_le
    · simp
theorem skipS_len (l : List UInt8) : (skipS l).length ≤ l.length := by
  obtain ⟨k, hk⟩ := List.dropWhile_suffix (l := l) (fun c : UInt8 => c == 32)
  have := congrArg List.length hk
  rw [List.length_append] at this
  show (l.dropWhile _).length ≤ _
  omega
theorem nxt_len (l : List UInt8) : (nxt l).length + (tok l).length ≤ l.length := by
  have h1 := skipS_len (l.drop (tok l).length)
  have h2 := tok_len l
  rw [List.length_drop] at h1
  unfold nxt
  omega
theorem nxt_lt {l : List UInt8} {sign : Rest} (hs : 0 < sign.length) (h : tok l = sign) : (nxt l).length < l.length := by
  have := nxt_len l
  rw [h] at this
  omega

/-- A function that leaves no more than it got. -/
def Shrinks (f : Rest → Option Tree × Rest) : Prop := ∀ r, (f r).2.length ≤ r.length

theorem pairP_len {op : Int} {sign : Rest} {left right : Rest → Option Tree × Rest} (hl : Shrinks left) (hr : Shrinks right) : Shrinks (pairP op sign left right) := by
  intro r
  have h1 := hl r
  unfold pairP
  cases hL : left r with
  | mk o r1 =>
    rw [hL] at h1
    simp only at h1
    cases o with
    | none => exact h1
    | some f =>
      simp only
      split
      · have h2 := hr (nxt r1)
        have h3 := nxt_len r1
        cases hR : right (nxt r1) with
        | mk o2 r2 =>
          rw [hR] at h2
          simp only at h2
          cases o2 <;> simp only <;> omega
      · exact h1
theorem rowLoop_len {sign : Rest} {part : Rest → Option Tree × Rest} (hp : Shrinks part) : ∀ (n : Nat) (l : List Tree) (r : Rest), (rowLoop sign part n l r).2.length ≤ r.length
  | 0, l, r => Nat.le_refl _
  | n + 1, l, r => by
    unfold rowLoop
    split
    · have h2 := hp (nxt r)
      have h3 := nxt_len r
      cases hR : part (nxt r) with
      | mk o2 r2 =>
        rw [hR] at h2
        simp only at h2
        cases o2 with
        | none => simp only; omega
        | some f => have := rowLoop_len (sign := sign) hp n (l ++ [f]) r2; simp only; omega
    · exact Nat.le_refl _
theorem rowP_len {op : Int} {sign : Rest} {part : Rest → Option Tree × Rest} (hp : Shrinks part) : Shrinks (rowP op sign part) := by
  intro r
  have h1 := hp r
  unfold rowP
  cases hL : part r with
  | mk o r1 =>
    rw [hL] at h1
    simp only at h1
    cases o with
    | none => exact h1
    | some f =>
      simp only
      split
      · have h2 := rowLoop_len (sign := sign) hp (r1.length + 1) [f] r1
        cases hR : rowLoop sign part (r1.length + 1) [f] r1 with
        | mk o2 r2 =>
          rw [hR] at h2
          simp only at h2
          cases o2 <;> simp only <;> omega
      · exact h1
theorem pF_len : ∀ (n k : Nat), Shrinks (pF n k) := by
  intro n
  induction n with
  | zero => intro k r; exact Nat.le_refl _
  | succ n ih =>
    intro k
    match k with
    | 0 => exact pairP_len (ih 1) (ih 1)
    | 1 => exact pairP_len (ih 2) (ih 1)
    | 2 => exact rowP_len (ih 3)
    | 3 => exact rowP_len (ih 4)
    | 4 =>
      intro r
      rw [pF4]
      split
      · have h2 := ih 4 (nxt r)
        have h3 := nxt_len r
        cases hR : pF n 4 (nxt r) with
        | mk o2 r2 =>
          rw [hR] at h2
          simp only at h2
          cases o2 <;> simp only [notP] <;> omega
      · exact ih 5 r
    | 5 =>
      intro r
      have h3 := nxt_len r
      rw [pF5]
      split
      · exact ih 6 r
      split
      · simp only; omega
      split
      · simp only; omega
      split
      · simp only; omega
      · exact Nat.le_refl _
    | k + 6 =>
      intro r
      have h2 := ih 0 (nxt r)
      have h3 := nxt_len r
      rw [pF6]
      cases hR : pF n 0 (nxt r) with
      | mk o2 r2 =>
        rw [hR] at h2
        simp only at h2
        cases o2 with
        | none => simp only [closeP]; omega
        | some f =>
          have h4 := nxt_len r2
          simp only [closeP]
          split <;> simp only <;> omega

/-- The parser stands at this rest of its text. -/
structure PAt (w : World) (b : Nat) (s : ByteArray) (r : Rest) : Prop where
  ex : ∃ p : Nat, p ≤ s.size ∧ r = s.data.toList.drop p ∧ PBox w b s p ⟨(tok r).toArray⟩
  signs : SignsAt w
  hb0 : b ≠ 0
  hs : s.size ≤ 4096
section
variable {w w' : World} {b : Nat} {s : ByteArray} {r : Rest}
theorem PAt.lt (h : PAt w b s r) : b < w.heap.size := by obtain ⟨p, _, _, hp⟩ := h.ex; exact hp.lt
theorem PAt.go (h : PAt w b s r) (hb : Below w.heap.size w w') : PAt w' b s r := by
  obtain ⟨p, h1, h2, h3⟩ := h.ex
  exact ⟨⟨p, h1, h2, blk_kept h3 hb⟩, h.signs.go hb, h.hb0, h.hs⟩
theorem PAt.kept {row : Option Nat} (h : PAt w b s r) (hg : w.grownBy w' row) (hr : row ≠ some b) (h0 : row ≠ some 0) : PAt w' b s r := by
  obtain ⟨p, h1, h2, h3⟩ := h.ex
  exact ⟨⟨p, h1, h2, by unfold PBox; rw [hg.block b h3.lt (fun e => hr e.symm)]; exact h3⟩, h.signs.kept hg h0, h.hb0, h.hs⟩
theorem PAt.alloc (h : PAt w b s r) (o : Obj) : PAt (w.alloc o) b s r := h.go ((Below.refl _ _).alloc (Nat.le_refl _) o)
theorem PAt.cells (h : PAt w b s r) : w.cell? ⟨b, 0, none⟩ = some (.string s) ∧ w.cell? ⟨b, 2, none⟩ = some (.string ⟨(tok r).toArray⟩) := by
  obtain ⟨p, _, _, hp⟩ := h.ex
  exact ⟨hp.cells.1, hp.cells.2.2⟩
theorem PAt.len (h : PAt w b s r) : r.length ≤ 4096 := by
  obtain ⟨p, _, rfl, hp⟩ := h.ex
  have := h.hs
  rw [List.length_drop]
  have e := size_data s
  omega

theorem next_at (h : PAt w b s r) : Calls Tryd.prog 40 #[.pointer (some ⟨b, 0, none⟩)] w fun e w' => e = .returned (.tuple #[]) ∧ PAt w' b s (nxt r) ∧ w.grownBy w' (some b) := by
  obtain ⟨p, h1, h2, h3⟩ := h.ex
  have hl : (tok r).length ≤ r.length := tok_len r
  have e := size_data s
  have hr : r.length = s.size - p := by rw [h2, List.length_drop, e]
  have hz := h.hs
  refine (next_any s (by omega) p ⟨(tok r).toArray⟩ (by rw [mk_size]; omega) b h.hb0 w h3 h.signs).mono ?_
  rintro e' w' ⟨he, q, hq, hd, hbox, hg⟩
  have hn : s.data.toList.drop q = nxt r := by
    rw [hd, mk_size, nxt, h2, List.drop_drop, ← h2]
  rw [hn] at hbox
  exact ⟨he, ⟨⟨q, hq, hn.symm, hbox⟩, h.signs.kept hg (fun e => h.hb0 (by injection e)), h.hb0, h.hs⟩, hg⟩
end
end Go.Proofs.YtpiiadmjddikfaaDoor
