/- The search, on sets as bits: a step, its soundness, its ends and its ways. The state of the search in memory; a relation of worlds that keeps all blocks but one; surelyIn, narrowAt. The search's step at a node. The search's narrowing. The search's choice of a node. -/
import Derived.Test.YtfiaoibfejginaaDoorG0J
import Derived.Test.YtfiaoibfejginaaDoorG0K
import Derived.BigRegion
import Derived.Deep.MidRow
import Derived.Deep.Cut
import Derived.Deep.CutRange
import Derived.Deep.LoopGhost
import Derived.ChangeKeysEq
import Derived.Test.YtfiaoibfejginaaDoorG0P
import Derived.BigQuiet

namespace Go.Proofs.YtfiaoibfejginaaDoor
set_option linter.unusedVariables false
set_option linter.unusedSimpArgs false
open Go Go.RowKit Go.Sort

/-- What the nodes still can be: In, Out, Undecided, as sets. -/
structure Cn where
  i : BitVec 64
  o : BitVec 64
  u : BitVec 64
theorem Cn.eq {c d : Cn} (h1 : c.i = d.i) (h2 : c.o = d.o) (h3 : c.u = d.u) : c = d := by
  cases c; cases d; cases h1; cases h2; cases h3; rfl
/-- The nodes that can only be In. -/
def Cn.sure (c : Cn) : BitVec 64 := c.i &&& ~~~c.o &&& ~~~c.u
/-- The step at a node, as the program does it. -/
def nI1 (a : BitVec 64) (k : Nat) (c : Cn) : BitVec 64 := if a &&& ~~~c.o = 0#64 then c.i else c.i &&& ~~~(oneB k)
def nO1 (a : BitVec 64) (k : Nat) (c : Cn) : BitVec 64 := if a &&& nI1 a k c = 0#64 then c.o &&& ~~~(oneB k) else c.o
def nC1 (a : BitVec 64) (k : Nat) (c : Cn) : Cn := ⟨nI1 a k c, nO1 a k c, c.u⟩
def nU1 (a : BitVec 64) (k : Nat) (c : Cn) : BitVec 64 := if a &&& c.u = 0#64 then c.u &&& ~~~(oneB k) else if a &&& (nC1 a k c).sure = 0#64 then c.u else c.u &&& ~~~(oneB k)
def nC2 (a : BitVec 64) (k : Nat) (c : Cn) : Cn := ⟨nI1 a k c, nO1 a k c, nU1 a k c⟩
def nC3 (a : BitVec 64) (k : Nat) (d : Cn) : Cn :=
  if d.o &&& oneB k = 0#64 then ⟨d.i &&& ~~~a, d.o, if d.u &&& oneB k = 0#64 then d.u &&& ~~~a else d.u⟩ else d
def nAt (a : BitVec 64) (k : Nat) (c : Cn) : Cn := nC3 a k (nC2 a k c)

def SubB (S T : BitVec 64) : Prop := ∀ j, S.getLsbD j = true → T.getLsbD j = true
theorem SubB.refl (S : BitVec 64) : SubB S S := fun _ h => h
theorem SubB.trans {S T U : BitVec 64} (h : SubB S T) (h' : SubB T U) : SubB S U := fun j hj => h' j (h j hj)
theorem SubB.anti {S T : BitVec 64} (h : SubB S T) (h' : SubB T S) : S = T := BitVec.eq_of_getLsbD_eq fun j _ => Bool.eq_iff_iff.2 ⟨h j, h' j⟩
theorem bit64 {S : BitVec 64} {j : Nat} (h : S.getLsbD j = true) : j < 64 := by
  rcases Nat.lt_or_ge j 64 with h' | h'
  · exact h'
  · rw [BitVec.getLsbD_of_ge _ _ h'] at h; cases h
theorem bit_and {S T : BitVec 64} {j : Nat} : (S &&& T).getLsbD j = true ↔ S.getLsbD j = true ∧ T.getLsbD j = true := by
  rw [BitVec.getLsbD_and, Bool.and_eq_true]
theorem bit_sub {S T : BitVec 64} {j : Nat} : (S &&& ~~~T).getLsbD j = true ↔ S.getLsbD j = true ∧ ¬ T.getLsbD j = true := by
  rw [bit_and, BitVec.getLsbD_not]
  constructor
  · rintro ⟨h1, h2⟩
    refine ⟨h1, fun h3 => ?_⟩
    rw [h3] at h2
    simp at h2
  · rintro ⟨h1, h2⟩
    refine ⟨h1, ?_⟩
    rw [Bool.not_eq_true] at h2
    rw [h2]
    simp [bit64 h1]
theorem bit_or {S T : BitVec 64} {j : Nat} : (S ||| T).getLsbD j = true ↔ S.getLsbD j = true ∨ T.getLsbD j = true := by
  rw [BitVec.getLsbD_or, Bool.or_eq_true]
theorem bit_oneB {k j : Nat} : (oneB k).getLsbD j = true ↔ k < 64 ∧ j = k := by
  unfold oneB
  rw [BitVec.getLsbD_twoPow]
  constructor
  · intro h
    simp at h
    exact ⟨by omega, by omega⟩
  · rintro ⟨h, rfl⟩
    simp [h]
theorem zero_iff {S : BitVec 64} : S = 0#64 ↔ ∀ j, ¬ S.getLsbD j = true := by
  constructor
  · rintro rfl j
    simp
  · intro h
    refine BitVec.eq_of_getLsbD_eq fun j _ => ?_
    have := h j
    simp only [Bool.not_eq_true] at this
    rw [this]
    simp
theorem and_zero {S T : BitVec 64} : S &&& T = 0#64 ↔ ∀ j, S.getLsbD j = true → ¬ T.getLsbD j = true := by
  rw [zero_iff]
  exact ⟨fun h j h1 h2 => h j (bit_and.2 ⟨h1, h2⟩), fun h j h1 => h j (bit_and.1 h1).1 (bit_and.1 h1).2⟩
theorem sub_zero {S T : BitVec 64} : S &&& ~~~T = 0#64 ↔ SubB S T := by
  rw [zero_iff]
  refine ⟨fun h j h1 => ?_, fun h j h1 => (bit_sub.1 h1).2 (h j (bit_sub.1 h1).1)⟩
  exact Classical.byContradiction fun h2 => h j (bit_sub.2 ⟨h1, h2⟩)
theorem bit_sure {c : Cn} {j : Nat} : c.sure.getLsbD j = true ↔ c.i.getLsbD j = true ∧ ¬ c.o.getLsbD j = true ∧ ¬ c.u.getLsbD j = true := by
  unfold Cn.sure
  rw [bit_sub, bit_sub, and_assoc]
theorem and_one_zero {S : BitVec 64} {k : Nat} (hk : k < 64) : S &&& oneB k = 0#64 ↔ ¬ S.getLsbD k = true := by
  rw [and_zero]
  refine ⟨fun h h1 => h k h1 (bit_oneB.2 ⟨hk, rfl⟩), fun h j h1 h2 => ?_⟩
  obtain ⟨-, rfl⟩ := bit_oneB.1 h2
  exact h h1

structure SubC (c d : Cn) : Prop where
  i : SubB c.i d.i
  o : SubB c.o d.o
  u : SubB c.u d.u
theorem SubC.refl (c : Cn) : SubC c c := ⟨.refl _, .refl _, .refl _⟩
theorem SubC.trans {c d e : Cn} (h : SubC c d) (h' : SubC d e) : SubC c e := ⟨h.i.trans h'.i, h.o.trans h'.o, h.u.trans h'.u⟩
theorem SubC.anti {c d : Cn} (h : SubC c d) (h' : SubC d c) : c = d := Cn.eq (h.i.anti h'.i) (h.o.anti h'.o) (h.u.anti h'.u)
theorem subB_diff (S T : BitVec 64) : SubB (S &&& ~~~T) S := fun _ h => (bit_sub.1 h).1
theorem nC2_sub (a : BitVec 64) (k : Nat) (c : Cn) : SubC (nC2 a k c) c := by
  refine ⟨?_, ?_, ?_⟩
  · show SubB (nI1 a k c) _
    unfold nI1; split
    · exact .refl _
    · exact subB_diff _ _
  · show SubB (nO1 a k c) _
    unfold nO1; split
    · exact subB_diff _ _
    · exact .refl _
  · show SubB (nU1 a k c) _
    unfold nU1; split
    · exact subB_diff _ _
    · split
      · exact .refl _
      · exact subB_diff _ _
theorem nC3_sub (a : BitVec 64) (k : Nat) (d : Cn) : SubC (nC3 a k d) d := by
  unfold nC3
  split
  · refine ⟨subB_diff _ _, .refl _, ?_⟩
    show SubB (ite _ _ _) _
    split
    · exact subB_diff _ _
    · exact .refl _
  · exact .refl _
theorem nAt_sub (a : BitVec 64) (k : Nat) (c : Cn) : SubC (nAt a k c) c := (nC3_sub a k _).trans (nC2_sub a k c)

/-- One label for each node. -/
structure Tot (V : BitVec 64) (c : Cn) : Prop where
  all : ∀ j, V.getLsbD j = true ↔ c.i.getLsbD j = true ∨ c.o.getLsbD j = true ∨ c.u.getLsbD j = true
  io : ∀ j, c.i.getLsbD j = true → ¬ c.o.getLsbD j = true
  iu : ∀ j, c.i.getLsbD j = true → ¬ c.u.getLsbD j = true
  ou : ∀ j, c.o.getLsbD j = true → ¬ c.u.getLsbD j = true
/-- Every node is legal. -/
structure Leg (A : Nat → BitVec 64) (c : Cn) : Prop where
  i : ∀ k, c.i.getLsbD k = true → SubB (A k) c.o
  o : ∀ k, c.o.getLsbD k = true → ∃ j, (A k).getLsbD j = true ∧ c.i.getLsbD j = true
  u : ∀ k, c.u.getLsbD k = true → (∃ j, (A k).getLsbD j = true ∧ c.u.getLsbD j = true) ∧ ∀ j, (A k).getLsbD j = true → ¬ c.i.getLsbD j = true

/-- No label of a legal labelling is taken away. -/
theorem nAt_keep {A : Nat → BitVec 64} {V : BitVec 64} {c d : Cn} {k : Nat} (hk : k < 64) (hV : V.getLsbD k = true) (hA : SubB (A k) V) (ht : Tot V c) (hl : Leg A c) (hs : SubC c d) : SubC c (nAt (A k) k d) := by
  have h1 : SubB c.i (nI1 (A k) k d) := by
    intro j hj
    unfold nI1
    split
    · exact hs.i j hj
    · next hne =>
      refine bit_sub.2 ⟨hs.i j hj, fun h => ?_⟩
      obtain ⟨-, rfl⟩ := bit_oneB.1 h
      exact hne (sub_zero.2 fun m hm => hs.o m (hl.i j hj m hm))
  have h2 : SubB c.o (nO1 (A k) k d) := by
    intro j hj
    unfold nO1
    split
    · next he =>
      refine bit_sub.2 ⟨hs.o j hj, fun h => ?_⟩
      obtain ⟨-, rfl⟩ := bit_oneB.1 h
      obtain ⟨m, hm, hm'⟩ := hl.o j hj
      exact and_zero.1 he m hm (h1 m hm')
    · exact hs.o j hj
  have h3 : SubB c.u (nU1 (A k) k d) := by
    intro j hj
    unfold nU1
    split
    · next he =>
      refine bit_sub.2 ⟨hs.u j hj, fun h => ?_⟩
      obtain ⟨-, rfl⟩ := bit_oneB.1 h
      obtain ⟨⟨m, hm, hm'⟩, -⟩ := hl.u j hj
      exact and_zero.1 he m hm (hs.u m hm')
    · split
      · exact hs.u j hj
      · next hne =>
        refine bit_sub.2 ⟨hs.u j hj, fun h => ?_⟩
        obtain ⟨-, rfl⟩ := bit_oneB.1 h
        refine hne (and_zero.2 fun m hm hm' => ?_)
        obtain ⟨-, e2, e3⟩ := bit_sure.1 hm'
        have hmV := hA m hm
        rcases (ht.all m).1 hmV with h | h | h
        · exact (hl.u j hj).2 m hm h
        · exact e2 (h2 m h)
        · exact e3 (hs.u m h)
  have h4 : SubC c (nC2 (A k) k d) := ⟨h1, h2, h3⟩
  unfold nAt nC3
  split
  · next he =>
    have hko : ¬ c.o.getLsbD k = true := fun h => (and_one_zero hk).1 he (h2 k h)
    have hin : ∀ j, (A k).getLsbD j = true → ¬ c.i.getLsbD j = true := fun j hj hi => by
      rcases (ht.all k).1 hV with h | h | h
      · exact ht.io j hi (hl.i k h j hj)
      · exact hko h
      · exact (hl.u k h).2 j hj hi
    refine ⟨fun j hj => bit_sub.2 ⟨h1 j hj, fun h => hin j h hj⟩, h2, ?_⟩
    show SubB c.u (ite _ _ _)
    split
    · next he2 =>
      have hku : ¬ c.u.getLsbD k = true := fun h => (and_one_zero hk).1 he2 (h3 k h)
      refine fun j hj => bit_sub.2 ⟨h3 j hj, fun h => ?_⟩
      rcases (ht.all k).1 hV with h' | h' | h'
      · exact ht.ou j (hl.i k h' j h) hj
      · exact hko h'
      · exact hku h'
    · exact h3
  · exact h4

/-- A step that changes nothing. -/
structure FixK (a : BitVec 64) (k : Nat) (d : Cn) : Prop where
  i : d.i.getLsbD k = true → SubB a d.o
  o : d.o.getLsbD k = true → ∃ j, a.getLsbD j = true ∧ d.i.getLsbD j = true
  u : d.u.getLsbD k = true → (∃ j, a.getLsbD j = true ∧ d.u.getLsbD j = true) ∧ ∀ j, a.getLsbD j = true → ¬ d.sure.getLsbD j = true
theorem diff_fix {S : BitVec 64} {k : Nat} (hk : k < 64) (h : S &&& ~~~(oneB k) = S) : ¬ S.getLsbD k = true := fun h1 => by
  rw [← h] at h1
  exact (bit_sub.1 h1).2 (bit_oneB.2 ⟨hk, rfl⟩)
theorem fix_of {a : BitVec 64} {k : Nat} {d : Cn} (hk : k < 64) (h : nAt a k d = d) : FixK a k d := by
  have h2 : nC2 a k d = d := SubC.anti (nC2_sub a k d) (by
    have := nC3_sub a k (nC2 a k d)
    rw [show nC3 a k (nC2 a k d) = d from h] at this
    exact this)
  have e1 : nI1 a k d = d.i := congrArg Cn.i h2
  have e2 : nO1 a k d = d.o := congrArg Cn.o h2
  have e3 : nU1 a k d = d.u := congrArg Cn.u h2
  refine ⟨fun hi => ?_, fun ho => ?_, fun hu => ?_⟩
  · unfold nI1 at e1
    split at e1
    · next he => exact sub_zero.1 he
    · exact absurd hi (diff_fix hk e1)
  · unfold nO1 at e2
    rw [e1] at e2
    split at e2
    · exact absurd ho (diff_fix hk e2)
    · next hne =>
      refine Classical.byContradiction fun hn => hne (and_zero.2 fun j hj hj' => hn ⟨j, hj, hj'⟩)
  · have e4 : nC1 a k d = d := Cn.eq e1 e2 rfl
    unfold nU1 at e3
    rw [e4] at e3
    split at e3
    · exact absurd hu (diff_fix hk e3)
    · next hne =>
      split at e3
      · next he =>
        refine ⟨Classical.byContradiction fun hn => hne (and_zero.2 fun j hj hj' => hn ⟨j, hj, hj'⟩), and_zero.1 he⟩
      · exact absurd hu (diff_fix hk e3)

/-- At the end of the narrowing. -/
def Fix (A : Nat → BitVec 64) (V : BitVec 64) (d : Cn) : Prop := ∀ k, V.getLsbD k = true → FixK (A k) k d
def FullC (V : BitVec 64) (d : Cn) : Prop := d.i ||| d.o ||| d.u = V
theorem FullC.bit {V : BitVec 64} {d : Cn} (h : FullC V d) (j : Nat) : V.getLsbD j = true ↔ d.i.getLsbD j = true ∨ d.o.getLsbD j = true ∨ d.u.getLsbD j = true := by
  rw [← show _ = V from h, bit_or, bit_or, or_assoc]
/-- The legal labellings within d. -/
def Sols (A : Nat → BitVec 64) (V : BitVec 64) (d : Cn) (ls : List Cn) : Prop := ls.Nodup ∧ ∀ c, c ∈ ls ↔ Tot V c ∧ Leg A c ∧ SubC c d
theorem Sols.keep {A : Nat → BitVec 64} {V : BitVec 64} {d d' : Cn} {ls : List Cn} (h : Sols A V d' ls) (hs : SubC d' d) (hk : ∀ c, Tot V c → Leg A c → SubC c d → SubC c d') : Sols A V d ls :=
  ⟨h.1, fun c => Iff.trans (h.2 c) ⟨fun ⟨h1, h2, h3⟩ => ⟨h1, h2, h3.trans hs⟩, fun ⟨h1, h2, h3⟩ => ⟨h1, h2, hk c h1 h2 h3⟩⟩⟩
theorem Sols.none {A : Nat → BitVec 64} {V : BitVec 64} {d : Cn} (hd : SubB (d.i ||| d.o ||| d.u) V) (h : ¬ FullC V d) : Sols A V d [] :=
  ⟨List.nodup_nil, fun c => Iff.intro (fun h => nomatch h) fun ⟨h1, _, h3⟩ => absurd (show FullC V d from hd.anti fun j hj => by
    rcases (h1.all j).1 hj with e | e | e
    · exact bit_or.2 (.inl (bit_or.2 (.inl (h3.i j e))))
    · exact bit_or.2 (.inl (bit_or.2 (.inr (h3.o j e))))
    · exact bit_or.2 (.inr (h3.u j e))) h⟩
theorem Sols.leaf {A : Nat → BitVec 64} {V : BitVec 64} {d : Cn} (hf : FullC V d) (hx : Fix A V d) (hi : SubB d.i d.sure) : Sols A V d [d] := by
  have io : ∀ j, d.i.getLsbD j = true → ¬ d.o.getLsbD j = true := fun j hj => (bit_sure.1 (hi j hj)).2.1
  have iu : ∀ j, d.i.getLsbD j = true → ¬ d.u.getLsbD j = true := fun j hj => (bit_sure.1 (hi j hj)).2.2
  have ou : ∀ j, d.o.getLsbD j = true → ¬ d.u.getLsbD j = true := fun j hj hu => by
    have hV := (hf.bit j).2 (.inr (.inl hj))
    obtain ⟨m, hm, hm'⟩ := (hx j hV).o hj
    exact ((hx j hV).u hu).2 m hm (hi m hm')
  have ht : Tot V d := ⟨hf.bit, io, iu, ou⟩
  have hl : Leg A d := ⟨fun k hk => (hx k ((hf.bit k).2 (.inl hk))).i hk, fun k hk => (hx k ((hf.bit k).2 (.inr (.inl hk)))).o hk, fun k hk => by
    obtain ⟨h1, h2⟩ := (hx k ((hf.bit k).2 (.inr (.inr hk)))).u hk
    exact ⟨h1, fun j hj hji => h2 j hj (hi j hji)⟩⟩
  refine ⟨List.pairwise_singleton _ _, fun c => ⟨fun h => ?_, fun ⟨h1, h2, h3⟩ => ?_⟩⟩
  · rw [List.mem_singleton] at h
    subst h
    exact ⟨ht, hl, SubC.refl _⟩
  · rw [List.mem_singleton]
    refine h3.anti ⟨fun j hj => ?_, fun j hj => ?_, fun j hj => ?_⟩
    · rcases (h1.all j).1 ((hf.bit j).2 (.inl hj)) with e | e | e
      · exact e
      · exact absurd (h3.o j e) (io j hj)
      · exact absurd (h3.u j e) (iu j hj)
    · rcases (h1.all j).1 ((hf.bit j).2 (.inr (.inl hj))) with e | e | e
      · exact absurd hj (io j (h3.i j e))
      · exact e
      · exact absurd (h3.u j e) (ou j hj)
    · rcases (h1.all j).1 ((hf.bit j).2 (.inr (.inr hj))) with e | e | e
      · exact absurd hj (iu j (h3.i j e))
      · exact absurd hj (ou j (h3.o j e))
      · exact e
/-- The two ways at a node. -/
def way1 (n : BitVec 64) (d : Cn) : Cn := ⟨d.i, d.o &&& ~~~n, d.u &&& ~~~n⟩
def way2 (n : BitVec 64) (d : Cn) : Cn := ⟨d.i &&& ~~~n, d.o, d.u⟩
theorem way1_sub (n : BitVec 64) (d : Cn) : SubC (way1 n d) d := ⟨.refl _, subB_diff _ _, subB_diff _ _⟩
theorem way2_sub (n : BitVec 64) (d : Cn) : SubC (way2 n d) d := ⟨subB_diff _ _, .refl _, .refl _⟩
theorem Sols.both {A : Nat → BitVec 64} {V : BitVec 64} {d : Cn} {k : Nat} {l1 l2 : List Cn} (hk : d.i.getLsbD k = true) (hV : V.getLsbD k = true) (h1 : Sols A V (way1 (oneB k) d) l1) (h2 : Sols A V (way2 (oneB k) d) l2) : Sols A V d (l1 ++ l2) := by
  have h64 := bit64 hk
  refine ⟨List.nodup_append.2 ⟨h1.1, h2.1, fun a ha b hb hab => ?_⟩, fun c => ?_⟩
  · subst hab
    obtain ⟨ht, -, hs1⟩ := (h1.2 a).1 ha
    obtain ⟨-, -, hs2⟩ := (h2.2 a).1 hb
    rcases (ht.all k).1 hV with e | e | e
    · exact (bit_sub.1 (hs2.i k e)).2 (bit_oneB.2 ⟨h64, rfl⟩)
    · exact (bit_sub.1 (hs1.o k e)).2 (bit_oneB.2 ⟨h64, rfl⟩)
    · exact (bit_sub.1 (hs1.u k e)).2 (bit_oneB.2 ⟨h64, rfl⟩)
  · rw [List.mem_append, h1.2, h2.2]
    constructor
    · rintro (⟨ht, hl, hs⟩ | ⟨ht, hl, hs⟩)
      · exact ⟨ht, hl, hs.trans (way1_sub _ _)⟩
      · exact ⟨ht, hl, hs.trans (way2_sub _ _)⟩
    · rintro ⟨ht, hl, hs⟩
      by_cases hc : c.i.getLsbD k = true
      · refine .inl ⟨ht, hl, hs.i, fun j hj => bit_sub.2 ⟨hs.o j hj, fun h => ?_⟩, fun j hj => bit_sub.2 ⟨hs.u j hj, fun h => ?_⟩⟩
        · obtain ⟨-, rfl⟩ := bit_oneB.1 h
          exact ht.io j hc hj
        · obtain ⟨-, rfl⟩ := bit_oneB.1 h
          exact ht.iu j hc hj
      · refine .inr ⟨ht, hl, fun j hj => bit_sub.2 ⟨hs.i j hj, fun h => ?_⟩, hs.o, hs.u⟩
        obtain ⟨-, rfl⟩ := bit_oneB.1 h
        exact hc hj
/-- How much is left. -/
def Cn.mu (c : Cn) : Nat := (members c.i).length + (members c.o).length + (members c.u).length
theorem filter_le {p q : Nat → Bool} : ∀ {l : List Nat}, (∀ x ∈ l, p x = true → q x = true) → (l.filter p).length ≤ (l.filter q).length
  | [], _ => Nat.le_refl _
  | x :: l, h => by
    have ih := filter_le (p := p) (q := q) (l := l) fun y hy => h y (List.mem_cons_of_mem _ hy)
    have hx := h x (List.mem_cons_self ..)
    rw [List.filter_cons, List.filter_cons]
    cases e : p x <;> cases e' : q x <;> simp_all <;> omega
theorem filter_lt {p q : Nat → Bool} {z : Nat} : ∀ {l : List Nat}, (∀ x ∈ l, p x = true → q x = true) → z ∈ l → ¬ p z = true → q z = true → (l.filter p).length < (l.filter q).length
  | [], _, h, _, _ => nomatch h
  | x :: l, h, hz, h1, h2 => by
    have hx := h x (List.mem_cons_self ..)
    have hl := fun y hy => h y (List.mem_cons_of_mem x hy)
    have ih0 := filter_le (p := p) (q := q) (l := l) hl
    rw [List.filter_cons, List.filter_cons]
    rcases List.mem_cons.1 hz with rfl | hz
    · rw [if_neg h1, if_pos h2, List.length_cons]; omega
    · have ih := filter_lt hl hz h1 h2
      cases e : p x <;> cases e' : q x <;> simp_all <;> omega
theorem mem_le {S T : BitVec 64} (h : SubB S T) : (members S).length ≤ (members T).length := filter_le fun x _ hx => h x hx
theorem mem_lt {S T : BitVec 64} (h : SubB S T) {k : Nat} (h1 : ¬ S.getLsbD k = true) (h2 : T.getLsbD k = true) : (members S).length < (members T).length :=
  filter_lt (fun x _ hx => h x hx) (List.mem_range.2 (bit64 h2)) h1 h2
theorem mu_le {c d : Cn} (h : SubC c d) : c.mu ≤ d.mu := by
  have := mem_le h.i
  have := mem_le h.o
  have := mem_le h.u
  unfold Cn.mu; omega
theorem mem_ge {S T : BitVec 64} (h : SubB S T) (hm : (members T).length ≤ (members S).length) : S = T :=
  h.anti fun k hk => Classical.byContradiction fun h1 => by
    have := mem_lt h h1 hk
    omega
theorem mu_lt {c d : Cn} (h : SubC c d) (hne : c ≠ d) : c.mu < d.mu := by
  have h1 := mem_le h.i
  have h2 := mem_le h.o
  have h3 := mem_le h.u
  refine Classical.byContradiction fun hge => hne ?_
  unfold Cn.mu at hge
  exact Cn.eq (mem_ge h.i (by omega)) (mem_ge h.o (by omega)) (mem_ge h.u (by omega))
theorem way1_lt {k : Nat} {d : Cn} (hk : d.i.getLsbD k = true) (hs : ¬ d.sure.getLsbD k = true) : (way1 (oneB k) d).mu < d.mu := by
  refine mu_lt (way1_sub _ _) fun e => hs (bit_sure.2 ⟨hk, fun h => ?_, fun h => ?_⟩)
  · rw [← show _ = d.o from congrArg Cn.o e] at h
    exact (bit_sub.1 h).2 (bit_oneB.2 ⟨bit64 hk, rfl⟩)
  · rw [← show _ = d.u from congrArg Cn.u e] at h
    exact (bit_sub.1 h).2 (bit_oneB.2 ⟨bit64 hk, rfl⟩)
theorem way2_lt {k : Nat} {d : Cn} (hk : d.i.getLsbD k = true) : (way2 (oneB k) d).mu < d.mu := by
  refine mu_lt (way2_sub _ _) fun e => ?_
  have h := hk
  rw [← show _ = d.i from congrArg Cn.i e] at h
  exact (bit_sub.1 h).2 (bit_oneB.2 ⟨bit64 hk, rfl⟩)
/-- A round of the narrowing over the nodes ks. -/
def nRow (A : Nat → BitVec 64) (ks : List Nat) (c : Cn) : Cn := ks.foldl (fun d k => nAt (A k) k d) c
theorem nRow_sub (A : Nat → BitVec 64) : ∀ (ks : List Nat) (c : Cn), SubC (nRow A ks c) c
  | [], c => .refl c
  | k :: ks, c => (nRow_sub A ks _).trans (nAt_sub (A k) k c)
theorem nRow_fix (A : Nat → BitVec 64) : ∀ (ks : List Nat) (c : Cn), nRow A ks c = c → ∀ k ∈ ks, nAt (A k) k c = c
  | [], _, _ => fun _ h => nomatch h
  | k :: ks, c, h => by
    have e : nAt (A k) k c = c := (nAt_sub (A k) k c).anti (by
      have := nRow_sub A ks (nAt (A k) k c)
      rw [show nRow A ks (nAt (A k) k c) = c from h] at this
      exact this)
    have h' : nRow A ks c = c := by
      have h3 : nRow A ks (nAt (A k) k c) = c := h
      rwa [e] at h3
    intro x hx
    rcases List.mem_cons.1 hx with rfl | hx
    · exact e
    · exact nRow_fix A ks c h' x hx
theorem nRow_keep {A : Nat → BitVec 64} {V : BitVec 64} {c : Cn} (hA : ∀ k, V.getLsbD k = true → SubB (A k) V) (ht : Tot V c) (hl : Leg A c) : ∀ (ks : List Nat) (d : Cn), (∀ k ∈ ks, V.getLsbD k = true) → SubC c d → SubC c (nRow A ks d)
  | [], _, _, h => h
  | k :: ks, d, hV, h => nRow_keep hA ht hl ks _ (fun x hx => hV x (List.mem_cons_of_mem _ hx)) (nAt_keep (bit64 (hV k (List.mem_cons_self ..))) (hV k (List.mem_cons_self ..)) (hA k (hV k (List.mem_cons_self ..))) ht hl h)
end Go.Proofs.YtfiaoibfejginaaDoor

namespace Go.Proofs.YtfiaoibfejginaaDoor
set_option linter.unusedVariables false
set_option linter.unusedSimpArgs false
open Go Go.RowKit Go.Sort

/-- All blocks are kept but P. -/
structure ButP (P : Nat) (w w' : World) : Prop where
  os : w'.os = w.os
  tape : w'.tape = w.tape
  output : w'.output = w.output
  size : w.heap.size ≤ w'.heap.size
  block : ∀ k, k < w.heap.size → k ≠ P → w'.heap[k]? = w.heap[k]?
theorem ButP.refl (P : Nat) (w : World) : ButP P w w := ⟨rfl, rfl, rfl, Nat.le_refl _, fun _ _ _ => rfl⟩
theorem ButP.trans {P : Nat} {w w' w'' : World} (h : ButP P w w') (h' : ButP P w' w'') : ButP P w w'' :=
  ⟨h'.os.trans h.os, h'.tape.trans h.tape, h'.output.trans h.output, Nat.le_trans h.size h'.size, fun k hk hne => (h'.block k (Nat.lt_of_lt_of_le hk h.size) hne).trans (h.block k hk hne)⟩
theorem ButP.of {P : Nat} {w w' : World} (h : Below w.heap.size w w') : ButP P w w' := ⟨h.os, h.tape, h.output, h.size, fun k hk _ => h.block k hk⟩
theorem ButP.set {P : Nat} {w w' : World} (h : ButP P w w') (i : Nat) (u : Value) : ButP P w (w'.setCell ⟨P, i, none⟩ u) :=
  h.trans ⟨rfl, rfl, rfl, by rw [size_setCell9]; exact Nat.le_refl _, fun k _ hne => Below.heap_setCell _ ⟨P, i, none⟩ _ k hne⟩
theorem ButP.below {P B : Nat} {w w' : World} (h : ButP P w w') (hB : B ≤ P) (hs : B ≤ w.heap.size) : Below B w w' :=
  ⟨h.os, h.tape, h.output, h.size, fun k hk => h.block k (Nat.lt_of_lt_of_le hk hs) (by omega)⟩
theorem ButP.kept {P k : Nat} {w w' : World} {o : Obj} (h : ButP P w w') (hk : w.heap[k]? = some o) (hne : k ≠ P) : w'.heap[k]? = some o := (h.block k (lt_of_block hk) hne).trans hk

/-- The state: the nodes, the attackers of each, what the nodes can be, what was found. -/
def sRow (n : BitVec 64) (A : Nat → BitVec 64) (c : Cn) (vf : Value) (t : Bool) : Array Value := ((bv n :: (List.range 40).map fun i => bv (A i)) ++ [.int .u64 0, bv c.i, bv c.o, bv c.u, vf, .bool t]).toArray
theorem sRow_size (n : BitVec 64) (A : Nat → BitVec 64) (c : Cn) (vf : Value) (t : Bool) : (sRow n A c vf t).size = 47 := by simp [sRow]
def SrW (w : World) (P : Nat) (n : BitVec 64) (A : Nat → BitVec 64) (c : Cn) (vf : Value) (t : Bool) : Prop := w.heap[P]? = some (.cells (sRow n A c vf t) 61 (0, 0))
section
variable {w : World} {P : Nat} {n : BitVec 64} {A : Nat → BitVec 64} {c : Cn} {vf : Value} {t : Bool}
theorem SrW.lt (h : SrW w P n A c vf t) : P < w.heap.size := lt_of_block h
theorem SrW.go (h : SrW w P n A c vf t) {w' : World} (hb : Below w.heap.size w w') : SrW w' P n A c vf t := blk_kept2 h hb
theorem SrW.n0 (h : SrW w P n A c vf t) : w.cell? ⟨P, 0, none⟩ = some (bv n) := by
  unfold SrW at h
  simp [World.cell?, h, sRow]
theorem SrW.by_ (h : SrW w P n A c vf t) {i : Nat} (hi : i < 40) : w.cell? ⟨P, 1 + i, none⟩ = some (bv (A i)) := by
  unfold SrW at h
  rw [Nat.add_comm]
  simp [World.cell?, h, sRow, hi, List.getElem?_append_left]
theorem SrW.c0 (h : SrW w P n A c vf t) : w.cell? ⟨P, 41, none⟩ = some (.int .u64 0) := by
  unfold SrW at h
  rw [World.cell?, h]; rfl
theorem SrW.c1 (h : SrW w P n A c vf t) : w.cell? ⟨P, 42, none⟩ = some (bv c.i) := by
  unfold SrW at h
  rw [World.cell?, h]; rfl
theorem SrW.c2 (h : SrW w P n A c vf t) : w.cell? ⟨P, 43, none⟩ = some (bv c.o) := by
  unfold SrW at h
  rw [World.cell?, h]; rfl
theorem SrW.c3 (h : SrW w P n A c vf t) : w.cell? ⟨P, 44, none⟩ = some (bv c.u) := by
  unfold SrW at h
  rw [World.cell?, h]; rfl
theorem SrW.cf (h : SrW w P n A c vf t) : w.cell? ⟨P, 45, none⟩ = some vf := by
  unfold SrW at h
  rw [World.cell?, h]; rfl
theorem SrW.ct (h : SrW w P n A c vf t) : w.cell? ⟨P, 46, none⟩ = some (.bool t) := by
  unfold SrW at h
  rw [World.cell?, h]; rfl
theorem SrW.free (h : SrW w P n A c vf t) (i : Nat) : w.frozen? ⟨P, i, none⟩ = false := free_any h i
theorem SrW.setI (h : SrW w P n A c vf t) (S : BitVec 64) : SrW (w.setCell ⟨P, 42, none⟩ (bv S)) P n A ⟨S, c.o, c.u⟩ vf t := by
  unfold SrW at *
  rw [set_cells h]; rfl
theorem SrW.setO (h : SrW w P n A c vf t) (S : BitVec 64) : SrW (w.setCell ⟨P, 43, none⟩ (bv S)) P n A ⟨c.i, S, c.u⟩ vf t := by
  unfold SrW at *
  rw [set_cells h]; rfl
theorem SrW.setU (h : SrW w P n A c vf t) (S : BitVec 64) : SrW (w.setCell ⟨P, 44, none⟩ (bv S)) P n A ⟨c.i, c.o, S⟩ vf t := by
  unfold SrW at *
  rw [set_cells h]; rfl
theorem SrW.setF (h : SrW w P n A c vf t) (u : Value) : SrW (w.setCell ⟨P, 45, none⟩ u) P n A c u t := by
  unfold SrW at *
  rw [set_cells h]; rfl
theorem SrW.setT (h : SrW w P n A c vf t) (b : Bool) : SrW (w.setCell ⟨P, 46, none⟩ (.bool b)) P n A c vf b := by
  unfold SrW at *
  rw [set_cells h]; rfl
theorem sRow_set (i : Nat) (hi : i < 40) (S : BitVec 64) : (sRow n A c vf t).setIfInBounds (1 + i) (bv S) = sRow n (updB A i S) c vf t := by
  apply Array.ext_getElem?
  intro j
  rw [Array.getElem?_setIfInBounds, sRow_size]
  unfold sRow updB
  cases j with
  | zero =>
    rw [if_neg (by omega)]; rfl
  | succ j =>
    by_cases e : 1 + i = j + 1
    · obtain rfl : i = j := by omega
      rw [if_pos e, if_pos (by omega)]
      simp [hi, List.getElem?_append_left]
    · rw [if_neg e]
      have e' : ¬ j = i := by omega
      by_cases hj : j < 40
      · simp [hj, e', List.getElem?_append_left]
      · have hj' : 40 ≤ j := by omega
        simp [List.getElem?_append_right, hj']
theorem SrW.setA (h : SrW w P n A c vf t) {i : Nat} (hi : i < 40) (S : BitVec 64) : SrW (w.setCell ⟨P, 1 + i, none⟩ (bv S)) P n (updB A i S) c vf t := by
  unfold SrW at *
  rw [set_cells h, sRow_set i hi]
end
/-- A row of three sets, as a value. -/
def cnV (c : Cn) : Value := .agg #[.int .u64 0, bv c.i, bv c.o, bv c.u]

theorem sSurely_any (c : Cn) (w : World) : Calls Tryd.prog 78 #[cnV c] w fun e w' => e = .returned (bv c.sure) ∧ Below w.heap.size w w' := by
  have hB := bgrow w (.cells #[.int .u64 0, bv c.i, bv c.o, bv c.u] 57)
  have hX := heap_alloc_new w (.cells #[.int .u64 0, bv c.i, bv c.o, bv c.u] 57)
  have HB := hidIt hB
  have HX := hidIt hX
  clear hB hX
  unfold cnV
  go_enter Tryd.func78, Tryd.ntmps78
  go_upto_region 1 with (fail)
  generalize (w.alloc (.cells #[.int .u64 0, bv c.i, bv c.o, bv c.u] 57)) = w1 at *
  obtain ⟨K, hK⟩ : ∃ K, K = w.heap.size := ⟨_, rfl⟩
  have HK := hidIt hK
  rw [← hK] at HX ⊢
  clear hK
  have x1 : w1.cell? ⟨K, 1, none⟩ = some (bv c.i) := by rw [World.cell?, HX.out]; rfl
  have x2 : w1.cell? ⟨K, 2, none⟩ = some (bv c.o) := by rw [World.cell?, HX.out]; rfl
  have x3 : w1.cell? ⟨K, 3, none⟩ = some (bv c.u) := by rw [World.cell?, HX.out]; rfl
  have lx := lt_of_block HX.out
  go_wp2_with fail
  go_ret
  refine ⟨?_, HB.out⟩
  simp only [bits_andNot_bv]
  rfl
end Go.Proofs.YtfiaoibfejginaaDoor

namespace Go.Proofs.YtfiaoibfejginaaDoor
set_option linter.unusedVariables false
set_option linter.unusedSimpArgs false
open Go Go.RowKit Go.Sort

theorem tn_t {b : Int} {S : BitVec 64} (h : b = (S.toNat : Int)) (hS : ¬ S = 0#64) : (b != 0) = true := by
  have := bv_ne hS
  simp only [bne_iff_ne, ne_eq]
  omega
theorem tn_f {b : Int} {S : BitVec 64} (h : b = (S.toNat : Int)) (hS : S = 0#64) : (b != 0) = false := by
  rw [h, hS]; rfl
theorem te_f {b : Int} {S : BitVec 64} (h : b = (S.toNat : Int)) (hS : ¬ S = 0#64) : (b == 0) = false := by
  have := bv_ne hS
  simp only [beq_eq_false_iff_ne, ne_eq]
  omega
theorem te_t {b : Int} {S : BitVec 64} (h : b = (S.toNat : Int)) (hS : S = 0#64) : (b == 0) = true := by
  rw [h, hS]; rfl
theorem ButP.drew {P : Nat} {w w' : World} (h : ButP P w w') : ButP P w w'.drew := ⟨h.os, h.tape, h.output, h.size, h.block⟩

set_option maxRecDepth 100000 in
set_option maxHeartbeats 2000000 in
theorem sNarrowAt_any (P k : Nat) (n : BitVec 64) (A : Nat → BitVec 64) (c : Cn) (vf : Value) (t : Bool) (w : World) (hk : k < 40) (h : SrW w P n A c vf t) :
    Calls Tryd.prog 77 #[.pointer (some ⟨P, 0, none⟩), .int .i64 (k : Int)] w fun e w' => e = .returned (.tuple #[]) ∧ SrW w' P n A (nAt (A k) k c) vf t ∧ ButP P w w' := by
  have H := hidIt h
  have hk0 : (0 : Int) ≤ (k : Int) := by omega
  have hk40 : (k : Int) < 40 := by omega
  have hw1 := hidIt (wrap_one (show k < 64 by omega))
  have ca := h.by_ hk
  have lP := h.lt
  generalize hA : A k = a at *
  clear h
  go_enter Tryd.func77, Tryd.ntmps77
  go_wp2_with fail
  go_region
  have HD : Hid (SrW w.drew P n A c vf t) := H.out
  have HB : Hid (ButP P w w.drew) := ⟨rfl, rfl, rfl, Nat.le_refl _, fun _ _ _ => rfl⟩
  clear ca H lP
  rw [hw1.out]
  generalize hN : oneB k = nk at *
  generalize w.drew = w1 at *
  have c1 := HD.out.c1
  have c2 := HD.out.c2
  have c3 := HD.out.c3
  have lP := HD.out.lt
  have f1 := HD.out.free 42
  have f2 := HD.out.free 43
  have f3 := HD.out.free 44
  go_upto_if 21 with (fail)
  go_cut [4, 5] from 6 (fun v4 v5 wc => v4 = bv nk ∧ v5 = bv a ∧ Hid (SrW wc P n A ⟨nI1 a k c, c.o, c.u⟩ vf t) ∧ Hid (ButP P w wc))
  case first =>
    have hbn := bits_andNot_bv a c.o
    by_cases he : a &&& ~~~c.o = 0#64
    · have HE : Hid (nI1 a k c = c.i) := by show _ = _; unfold nI1; rw [if_pos he]
      have hte := tn_f hbn he
      clear hbn
      go_wp2_with fail
      go_meet
      exact ⟨rfl, rfl, by rw [HE.out]; exact HD, HB⟩
    · have HE : Hid (nI1 a k c = c.i &&& ~~~nk) := by show _ = _; unfold nI1; rw [if_neg he, hN]
      have hte := tn_t hbn he
      have HST := hidIt (bits_andNot_bv c.i nk)
      clear hbn
      go_wp2_with fail
      go_region
      rw [HST.out]
      go_wp2_with fail
      go_meet
      exact ⟨rfl, rfl, by rw [HE.out]; exact HD.out.setI _, (HB.out.set 42 _).drew⟩
  case rest =>
    obtain ⟨rfl, rfl, HD2, HB2⟩ := hcut
    clear HD HB c1 c2 c3 lP f1 f2 f3
    have c1 := HD2.out.c1
    have c2 := HD2.out.c2
    have c3 := HD2.out.c3
    have lP := HD2.out.lt
    have f1 := HD2.out.free 42
    have f2 := HD2.out.free 43
    have f3 := HD2.out.free 44
    go_upto_if 39 with (fail)
    go_cut [4, 5] from 6 (fun v4 v5 wc => v4 = bv nk ∧ v5 = bv a ∧ Hid (SrW wc P n A (nC1 a k c) vf t) ∧ Hid (ButP P w wc))
    case first =>
      have hbn := bits_and_bv a (nI1 a k c)
      by_cases he : a &&& nI1 a k c = 0#64
      · have HE : Hid (nC1 a k c = ⟨nI1 a k c, c.o &&& ~~~nk, c.u⟩) := by show _ = _; unfold nC1 nO1; rw [if_pos he, hN]
        have hte := te_t hbn he
        have HST := hidIt (bits_andNot_bv c.o nk)
        clear hbn
        go_wp2_with fail
        go_region
        rw [HST.out]
        go_wp2_with fail
        go_meet
        exact ⟨rfl, rfl, by rw [HE.out]; exact HD2.out.setO _, (HB2.out.set 43 _).drew⟩
      · have HE : Hid (nC1 a k c = ⟨nI1 a k c, c.o, c.u⟩) := by show _ = _; unfold nC1 nO1; rw [if_neg he]
        have hte := te_f hbn he
        clear hbn
        go_wp2_with fail
        go_meet
        exact ⟨rfl, rfl, by rw [HE.out]; exact HD2, HB2⟩
    case rest =>
      obtain ⟨rfl, rfl, HD3, HB3⟩ := hcut
      clear HD2 HB2 c1 c2 c3 lP f1 f2 f3
      have c0 := HD3.out.c0
      have c1 := (show _ = some (bv (nI1 a k c)) from HD3.out.c1)
      have c2 := (show _ = some (bv (nO1 a k c)) from HD3.out.c2)
      have c3 := (show _ = some (bv c.u) from HD3.out.c3)
      have lP := HD3.out.lt
      have f1 := HD3.out.free 42
      have f2 := HD3.out.free 43
      have f3 := HD3.out.free 44
      go_upto_region 5 with (fail)
      go_cut [4, 5, 67] from 6 (fun v4 v5 v67 wc => v4 = bv nk ∧ v5 = bv a ∧ v67 = .bool (!decide (a &&& c.u ≠ 0#64 ∧ a &&& (nC1 a k c).sure = 0#64)) ∧ Hid (SrW wc P n A (nC1 a k c) vf t) ∧ Hid (ButP P w wc))
      case first =>
        have hbn := bits_and_bv a c.u
        have hbs := bits_and_bv a (nC1 a k c).sure
        by_cases he : a &&& c.u = 0#64
        · have hte := te_t hbn he
          have HX : Hid (decide (a &&& c.u ≠ 0#64 ∧ a &&& (nC1 a k c).sure = 0#64) = false) := decide_eq_false fun h => h.1 he
          clear hbn hbs
          go_wp2_with fail
          go_meet
          exact ⟨rfl, rfl, by rw [HX.out]; rfl, HD3, HB3⟩
        · have hte := te_f hbn he
          have HC := hidIt (sSurely_any (nC1 a k c))
          clear hbn
          by_cases he2 : a &&& (nC1 a k c).sure = 0#64
          · have HX : Hid (decide (a &&& c.u ≠ 0#64 ∧ a &&& (nC1 a k c).sure = 0#64) = true) := decide_eq_true ⟨he, he2⟩
            have hte2 := tn_f hbs he2
            clear hbs
            go_wp2_with fail
            refine (HC.out _).mono ?_
            rintro e w2 ⟨rfl, hb⟩
            go_wp2_with fail
            go_meet
            exact ⟨rfl, rfl, by rw [HX.out]; rfl, HD3.out.go hb, HB3.out.trans (.of hb)⟩
          · have HX : Hid (decide (a &&& c.u ≠ 0#64 ∧ a &&& (nC1 a k c).sure = 0#64) = false) := decide_eq_false fun h => he2 h.2
            have hte2 := tn_t hbs he2
            clear hbs
            go_wp2_with fail
            refine (HC.out _).mono ?_
            rintro e w2 ⟨rfl, hb⟩
            go_wp2_with fail
            go_meet
            exact ⟨rfl, rfl, by rw [HX.out]; rfl, HD3.out.go hb, HB3.out.trans (.of hb)⟩
      case rest =>
        obtain ⟨rfl, rfl, rfl, HD4, HB4⟩ := hcut
        clear HD3 HB3 c0 c1 c2 c3 lP f1 f2 f3
        have c1 := (show _ = some (bv (nI1 a k c)) from HD4.out.c1)
        have c2 := (show _ = some (bv (nO1 a k c)) from HD4.out.c2)
        have c3 := (show _ = some (bv c.u) from HD4.out.c3)
        have lP := HD4.out.lt
        have f1 := HD4.out.free 42
        have f2 := HD4.out.free 43
        have f3 := HD4.out.free 44
        have HXF : Hid (decide (a &&& c.u ≠ 0#64 ∧ a &&& (nC1 a k c).sure = 0#64) = false → nC2 a k c = ⟨nI1 a k c, nO1 a k c, c.u &&& ~~~nk⟩) := fun hx => by
          have hx := of_decide_eq_false hx
          refine Cn.eq rfl rfl ?_
          show nU1 a k c = _
          unfold nU1
          rw [hN]
          by_cases h1 : a &&& c.u = 0#64
          · rw [if_pos h1]
          · rw [if_neg h1, if_neg fun h2 => hx ⟨h1, h2⟩]
        have HXT : Hid (decide (a &&& c.u ≠ 0#64 ∧ a &&& (nC1 a k c).sure = 0#64) = true → nC2 a k c = nC1 a k c) := fun hx => by
          have hx := of_decide_eq_true hx
          refine Cn.eq rfl rfl ?_
          show nU1 a k c = c.u
          unfold nU1
          rw [if_neg hx.1, if_pos hx.2]
        generalize decide (a &&& c.u ≠ 0#64 ∧ a &&& (nC1 a k c).sure = 0#64) = X at *
        go_upto_if 67 with (fail)
        go_cut [4, 5] from 6 (fun v4 v5 wc => v4 = bv nk ∧ v5 = bv a ∧ Hid (SrW wc P n A (nC2 a k c) vf t) ∧ Hid (ButP P w wc))
        case first =>
          cases X
          · have HE := hidIt (HXF.out rfl)
            have HST := hidIt (bits_andNot_bv c.u nk)
            go_wp2_with fail
            go_region
            rw [HST.out]
            go_wp2_with fail
            go_meet
            exact ⟨rfl, rfl, by rw [HE.out]; exact HD4.out.setU _, (HB4.out.set 44 _).drew⟩
          · have HE := hidIt (HXT.out rfl)
            go_wp2_with fail
            go_meet
            exact ⟨rfl, rfl, by rw [HE.out]; exact HD4, HB4⟩
        case rest =>
          obtain ⟨rfl, rfl, HD5, HB5⟩ := hcut
          clear HD4 HB4 c1 c2 c3 lP f1 f2 f3 HXF HXT
          have HR : Hid (nAt a k c = nC3 a k (nC2 a k c)) := (rfl : _ = _)
          generalize nC2 a k c = d at *
          have c1 := HD5.out.c1
          have c2 := HD5.out.c2
          have c3 := HD5.out.c3
          have lP := HD5.out.lt
          have f1 := HD5.out.free 42
          have f2 := HD5.out.free 43
          have f3 := HD5.out.free 44
          have hbn := bits_and_bv d.o nk
          by_cases he : d.o &&& nk = 0#64
          · have hte := te_t hbn he
            have HST := hidIt (bits_andNot_bv d.i a)
            clear hbn
            go_wp2_with fail
            go_region
            rw [HST.out]
            have HD6 : Hid (SrW (wc.setCell ⟨P, 42, none⟩ (bv (d.i &&& ~~~a))).drew P n A ⟨d.i &&& ~~~a, d.o, d.u⟩ vf t) := HD5.out.setI _
            have HB6 : Hid (ButP P w (wc.setCell ⟨P, 42, none⟩ (bv (d.i &&& ~~~a))).drew) := (HB5.out.set 42 _).drew
            clear c1 c2 c3 lP f1 f2 f3 HD5 HB5
            generalize (wc.setCell ⟨P, 42, none⟩ (bv (d.i &&& ~~~a))).drew = w6 at *
            have c3 := (show _ = some (bv d.u) from HD6.out.c3)
            have lP := HD6.out.lt
            have f3 := HD6.out.free 44
            have hbn := bits_and_bv d.u nk
            by_cases he2 : d.u &&& nk = 0#64
            · have HE : Hid (nAt a k c = ⟨d.i &&& ~~~a, d.o, d.u &&& ~~~a⟩) := by show _ = _; rw [HR.out]; unfold nC3; rw [hN, if_pos he, if_pos he2]
              have hte2 := te_t hbn he2
              have HST := hidIt (bits_andNot_bv d.u a)
              clear hbn
              go_wp2_with fail
              go_region
              rw [HST.out]
              go_wp2_with fail
              go_end0
              refine ⟨rfl, ?_, (HB6.out.set 44 _).drew⟩
              rw [HE.out]
              exact HD6.out.setU _
            · have HE : Hid (nAt a k c = ⟨d.i &&& ~~~a, d.o, d.u⟩) := by show _ = _; rw [HR.out]; unfold nC3; rw [hN, if_pos he, if_neg he2]
              have hte2 := te_f hbn he2
              clear hbn
              go_wp2_with fail
              go_end0
              refine ⟨rfl, ?_, HB6.out⟩
              rw [HE.out]
              exact HD6.out
          · have HE : Hid (nAt a k c = d) := by show _ = _; rw [HR.out]; unfold nC3; rw [hN, if_neg he]
            have hte := te_f hbn he
            clear hbn
            go_wp2_with fail
            go_end0
            refine ⟨rfl, ?_, HB5.out⟩
            rw [HE.out]
            exact HD5.out
end Go.Proofs.YtfiaoibfejginaaDoor

namespace Go.Proofs.YtfiaoibfejginaaDoor
set_option linter.unusedVariables false
set_option linter.unusedSimpArgs false
open Go Go.RowKit Go.Sort

theorem Tab.but {P : Nat} {w w' : World} (h : Tab w) (hb : ButP P w w') (hg : 0 < P) (hP : P ≤ w.heap.size) : Tab w' := fun j hj =>
  (Below.cell (p := ⟨0, j, none⟩) (hb.below (Nat.le_refl _) hP) hg).trans (h j hj)
theorem cells4 {w : World} {b : Nat} {u0 u1 u2 u3 : Value} {t : TypeId} (h : w.heap[b]? = some (.cells #[u0, u1, u2, u3] t (0, 0))) :
    w.cell? ⟨b, 0, none⟩ = some u0 ∧ w.cell? ⟨b, 1, none⟩ = some u1 ∧ w.cell? ⟨b, 2, none⟩ = some u2 ∧ w.cell? ⟨b, 3, none⟩ = some u3 := by
  simp [World.cell?, h]
def cnB (c d : Cn) : Bool := ((c.i.toNat : Int) == (d.i.toNat : Int)) && (((c.o.toNat : Int) == (d.o.toNat : Int)) && ((c.u.toNat : Int) == (d.u.toNat : Int)))
theorem cnB_iff (c d : Cn) : cnB c d = true ↔ c = d := by
  unfold cnB
  rw [Bool.and_eq_true, Bool.and_eq_true, beq_iff_eq, beq_iff_eq, beq_iff_eq]
  refine ⟨fun ⟨h1, h2, h3⟩ => Cn.eq (bv_ext h1) (bv_ext h2) (bv_ext h3), fun h => ?_⟩
  subst h
  exact ⟨rfl, rfl, rfl⟩
theorem eqCn (c d : Cn) (w : World) : (Op.equalIn 10000 57 (.agg #[.int .u64 0, bv c.i, bv c.o, bv c.u]) (.agg #[.int .u64 0, bv d.i, bv d.o, bv d.u])).run Tryd.prog w = .ok (cnB c d) w := by
  obtain ⟨i0, hi, -⟩ := info_parts infoU9
  rw [show (10000 : Nat) = 9999 + 1 from rfl, run_equalIn_array w 9999 _ _ Tryd.underlying57 hi, show Tryd.prog.cellsOf 54 = 1 by kernel_rfl, show List.range 4 = [0, 1, 2, 3] from rfl]
  simp only [Op.eqItems]
  have u4 := Tryd.underlying54
  go_simp
  unfold cnB
  by_cases h1 : (c.i.toNat : Int) = d.i.toNat <;> by_cases h2 : (c.o.toNat : Int) = d.o.toNat <;> by_cases h3 : (c.u.toNat : Int) = d.u.toNat <;> simp [h1, h2, h3]
theorem ButP.drewN {P : Nat} {w w' : World} (h : ButP P w w') (m : Nat) : ButP P w (w'.drewN m) := ⟨h.os, h.tape, h.output, h.size, h.block⟩
theorem ButP.setNew {P q : Nat} {w w' : World} (h : ButP P w w') (hq : w.heap.size ≤ q) (i : Nat) (u : Value) : ButP P w (w'.setCell ⟨q, i, none⟩ u) :=
  ⟨h.os, h.tape, h.output, by rw [size_setCell9]; exact h.size, fun k hk hne => (Below.heap_setCell _ ⟨q, i, none⟩ _ k (by show k ≠ q; omega)).trans (h.block k hk hne)⟩
theorem SrW.other {w : World} {P q : Nat} {n : BitVec 64} {A : Nat → BitVec 64} {c : Cn} {vf : Value} {t : Bool} (h : SrW w P n A c vf t) (hne : P ≠ q) (i : Nat) (u : Value) : SrW (w.setCell ⟨q, i, none⟩ u) P n A c vf t :=
  (Below.heap_setCell _ ⟨q, i, none⟩ _ P hne).trans h
/-- A row of three sets that the call keeps. -/
def CnB (w : World) (b : Nat) (c : Cn) : Prop := w.heap[b]? = some (.cells #[.int .u64 0, bv c.i, bv c.o, bv c.u] 57 (0, 0))
theorem CnB.put {w : World} {q : Nat} {c : Cn} (h : CnB w q c) (d : Cn) : CnB ((((w.setCell ⟨q, 0, none⟩ (.int .u64 0)).setCell ⟨q, 1, none⟩ (bv d.i)).setCell ⟨q, 2, none⟩ (bv d.o)).setCell ⟨q, 3, none⟩ (bv d.u)) q d := by
  have h1 := set_cells (i := 0) (u := .int .u64 0) h
  have h2 := set_cells (i := 1) (u := bv d.i) h1
  have h3 := set_cells (i := 2) (u := bv d.o) h2
  have h4 := set_cells (i := 3) (u := bv d.u) h3
  simpa [CnB] using h4
theorem CnB.but {P q : Nat} {w w' : World} {c : Cn} (h : CnB w q c) (hb : ButP P w w') (hne : q ≠ P) : CnB w' q c := hb.kept h hne
theorem eq_bv14 (S T : BitVec 64) : ((S.toNat : Int) == (T.toNat : Int)) = decide (S = T) := by
  rw [Bool.eq_iff_iff, beq_iff_eq, decide_eq_true_eq]
  exact ⟨fun h => bv_ext h, fun h => by rw [h]⟩
theorem clear_bits {T : BitVec 64} (hz : ¬ T = 0#64) : bits .and .u64 (T.toNat : Int) ((18446744073709551615 + (T.toNat : Int)) % 18446744073709551616) = ((T &&& (T - 1#64)).toNat : Int) ∧ T.toNat &&& (18446744073709551615 + T.toNat) % 18446744073709551616 = (T &&& (T - 1#64)).toNat := by
  have h1 := T.isLt
  have h2 := bv_ne hz
  refine ⟨?_, ?_⟩
  · rw [← bits_and_bv]
    have e : (18446744073709551615 + (T.toNat : Int)) % 18446744073709551616 = ((T - 1#64).toNat : Int) := by
      rw [sub_one_bv hz]
      omega
    rw [e]
  · have e : (18446744073709551615 + T.toNat) % 18446744073709551616 = (T - 1#64).toNat := by
      rw [sub_one_bv hz]
      omega
    rw [e, BitVec.toNat_and]

set_option maxRecDepth 100000 in
set_option maxHeartbeats 4000000 in
theorem sNarrow_any (P : Nat) (n : BitVec 64) (A : Nat → BitVec 64) (c : Cn) (vf : Value) (t : Bool) (w : World) (h : SrW w P n A c vf t) (hT : Tab w) (hg : 0 < P)
    (hn : ∀ k, n.getLsbD k = true → k < 40) (hA : ∀ k, n.getLsbD k = true → SubB (A k) n) (hc : SubB (c.i ||| c.o ||| c.u) n) :
    Calls Tryd.prog 63 #[.pointer (some ⟨P, 0, none⟩)] w fun e w' => ∃ (b : Bool) (c' : Cn), e = .returned (.bool b) ∧ SrW w' P n A c' vf t ∧ ButP P w w' ∧ SubC c' c ∧ (∀ s, Tot n s → Leg A s → SubC s c → SubC s c') ∧ (b = true ↔ FullC n c') ∧ (b = true → Fix A n c') := by
  have HT := hidIt hT
  have HG := hidIt hg
  have HN := hidIt hn
  have HA := hidIt hA
  have HC0 := hidIt hc
  have hP := h.lt
  have HB0 : Hid (ButP P w (w.alloc (.cells #[.int .u64 0, .int .u64 0, .int .u64 0, .int .u64 0] 57))) := .of (bgrow w _)
  have HD0 := hidIt (h.go (bgrow w (.cells #[.int .u64 0, .int .u64 0, .int .u64 0, .int .u64 0] 57)))
  have HX0 : Hid (CnB (w.alloc (.cells #[.int .u64 0, .int .u64 0, .int .u64 0, .int .u64 0] 57)) w.heap.size ⟨0#64, 0#64, 0#64⟩) := heap_alloc_new w _
  clear h hT hg hn hA hc
  have HM := hidIt (show c.mu < c.mu + 1 by omega)
  have HM := hidIt (show c.mu < c.mu + 1 by omega)
  go_enter Tryd.func63, Tryd.ntmps63
  go_upto_region 2 with (fail)
  generalize (w.alloc (.cells #[.int .u64 0, .int .u64 0, .int .u64 0, .int .u64 0] 57)) = w1 at *
  go_loopg [3, 4] (c.mu + 1) (fun g v3 _ wr => ∃ (q : Nat) (cb c1 : Cn), v3 = .pointer (some ⟨q, 0, none⟩) ∧ w.heap.size ≤ q ∧ Hid (CnB wr q cb) ∧ Hid (SrW wr P n A c1 vf t) ∧ Hid (ButP P w wr) ∧ Hid (SubC c1 c) ∧ Hid (∀ s, Tot n s → Leg A s → SubC s c → SubC s c1) ∧ Hid (cb = ⟨0#64, 0#64, 0#64⟩ ∨ nRow A (members n) cb = c1) ∧ Hid (cb = c1 ∨ c1.mu < g))
  case atStart => exact ⟨w.heap.size, ⟨0#64, 0#64, 0#64⟩, c, rfl, Nat.le_refl _, HX0, HD0, HB0, SubC.refl c, fun _ _ _ h => h, Or.inl rfl, Or.inr HM.out⟩
  case round =>
    obtain ⟨q, cb, c1, rfl, hPq, HX, HD, HB, HS, HK, HF, HME⟩ := hrel
    obtain ⟨x0, x1, x2, x3⟩ := cells4 HX.out
    have lx := lt_of_block HX.out
    have dn := HD.out.n0
    have d0 := HD.out.c0
    have d1 := HD.out.c1
    have d2 := HD.out.c2
    have d3 := HD.out.c3
    have lP := HD.out.lt
    have hq := fun w => eqCn c1 cb w
    by_cases hE : cb = c1
    · subst hE
      rw [(cnB_iff cb cb).2 rfl] at hq
      have HO1 := hidIt (bits_or_bv cb.i cb.o)
      have HO2 := hidIt (bits_or_bv (cb.i ||| cb.o) cb.u)
      have HEQ := hidIt (eq_bv14 (cb.i ||| cb.o ||| cb.u) n)
      clear HME
      go_wp2_with fail
      go_region
      go_upto_region 10 with (fail)
      have HDd : Hid (SrW wr.drew P n A cb vf t) := HD.out
      have HBd : Hid (ButP P w wr.drew) := HB.out.drew
      generalize wr.drew = wd at *
      clear x0 x1 x2 x3 lx dn d0 d1 d2 d3 lP HX HD HB
      have dn := HDd.out.n0
      have d1 := HDd.out.c1
      have d2 := HDd.out.c2
      have d3 := HDd.out.c3
      have lP := HDd.out.lt
      go_quiet (fail)
      go_wp2_with fail
      rw [HO1.out, HO2.out, HEQ.out]
      go_ret
      refine ⟨decide (cb.i ||| cb.o ||| cb.u = n), cb, rfl, HDd.out, HBd.out.drewN _, HS.out, HK.out, decide_eq_true_iff (p := cb.i ||| cb.o ||| cb.u = n), fun hb => ?_⟩
      have hf : FullC n cb := of_decide_eq_true (p := cb.i ||| cb.o ||| cb.u = n) hb
      intro k hk
      rcases HF.out with e | e
      · exfalso
        subst e
        have := (hf.bit k).1 hk
        simp at this
      · exact fix_of (bit64 hk) (nRow_fix A (members n) cb e k (mem_members.2 ⟨bit64 hk, hk⟩))
    · rw [Bool.eq_false_iff.2 fun h => hE ((cnB_iff c1 cb).1 h).symm] at hq
      have f0 := free_any HX.out 0
      have f1 := free_any HX.out 1
      have f2 := free_any HX.out 2
      have f3 := free_any HX.out 3
      have HLT : Hid (c1.mu < gk) := HME.out.resolve_left hE
      have hPne : P ≠ q := by omega
      clear hE HME HF
      go_wp2_with fail
      go_region
      go_upto_region 4 with (fail)
      have HX4 : Hid (CnB ((((wr.setCell ⟨q, 0, none⟩ (.int .u64 0)).setCell ⟨q, 1, none⟩ (bv c1.i)).setCell ⟨q, 2, none⟩ (bv c1.o)).setCell ⟨q, 3, none⟩ (bv c1.u)).drew q c1) := HX.out.put c1
      have HD4 : Hid (SrW ((((wr.setCell ⟨q, 0, none⟩ (.int .u64 0)).setCell ⟨q, 1, none⟩ (bv c1.i)).setCell ⟨q, 2, none⟩ (bv c1.o)).setCell ⟨q, 3, none⟩ (bv c1.u)).drew P n A c1 vf t) := (((HD.out.other hPne 0 _).other hPne 1 _).other hPne 2 _).other hPne 3 _
      have HB4 : Hid (ButP P w ((((wr.setCell ⟨q, 0, none⟩ (.int .u64 0)).setCell ⟨q, 1, none⟩ (bv c1.i)).setCell ⟨q, 2, none⟩ (bv c1.o)).setCell ⟨q, 3, none⟩ (bv c1.u)).drew) := ((((HB.out.setNew hPq 0 _).setNew hPq 1 _).setNew hPq 2 _).setNew hPq 3 _).drew
      generalize ((((wr.setCell ⟨q, 0, none⟩ (.int .u64 0)).setCell ⟨q, 1, none⟩ (bv c1.i)).setCell ⟨q, 2, none⟩ (bv c1.o)).setCell ⟨q, 3, none⟩ (bv c1.u)).drew = w4 at *
      clear x0 x1 x2 x3 lx dn d0 d1 d2 d3 lP HX HD HB f0 f1 f2 f3 hq
      have dn := HD4.out.n0
      have lP := HD4.out.lt
      go_wp2_with fail
      clear dn lP
      go_loopw [4] (fun v4 wr => ∃ (T : BitVec 64) (zs : List Nat), v4 = bv T ∧ Hid (zs ++ members T = members n) ∧ Hid (SrW wr P n A (nRow A zs c1) vf t) ∧ Hid (CnB wr q c1) ∧ Hid (ButP P w wr)) (fun v4 _ => (intOf v4).toNat)
      case atStart => exact ⟨n, [], rfl, (rfl : [] ++ members n = members n), HD4, HX4, HB4⟩
      case round =>
        obtain ⟨T, zs, rfl, HZM, HD5, HX5, HB5⟩ := hrel
        by_cases hz : T = 0#64
        · subst hz
          have HZS : Hid (zs = members n) := by
            have := HZM.out
            rw [members_zero, List.append_nil] at this
            exact this
          rw [HZS.out] at HD5
          obtain ⟨x0, x1, x2, x3⟩ := cells4 HX5.out
          have lx := lt_of_block HX5.out
          have HQ : Hid (q < wr.heap.size) := lx
          have HB6 : Hid (ButP P w (wr.alloc (.cells #[.int .u64 0, bv c1.i, bv c1.o, bv c1.u] 57))) := HB5.out.trans (.of (bgrow wr _))
          have HD6 := hidIt (HD5.out.go (bgrow wr (.cells #[.int .u64 0, bv c1.i, bv c1.o, bv c1.u] 57)))
          have HX6 : Hid (CnB (wr.alloc (.cells #[.int .u64 0, bv c1.i, bv c1.o, bv c1.u] 57)) wr.heap.size c1) := heap_alloc_new wr _
          have hsz := HB5.out.size
          go_wp2_with fail
          go_roundg c1.mu
          case measure => exact HLT.out
          case rel =>
            have hsub := nRow_sub A (members n) c1
            refine ⟨wr.heap.size, c1, nRow A (members n) c1, rfl, hsz, HX6, HD6, HB6, hsub.trans HS.out, fun s h1 h2 h3 => nRow_keep HA.out h1 h2 (members n) c1 (fun k hk => (mem_members.1 hk).2) (HK.out s h1 h2 h3), Or.inr rfl, ?_⟩
            by_cases he : nRow A (members n) c1 = c1
            · exact Or.inl he.symm
            · exact Or.inr (mu_lt hsub he)
        · have HZ := hidIt hz
          have hne : ((T.toNat : Int) != 0) = true := by have := bv_ne hz; simp; omega
          have hws := wrap_sub_one hz
          obtain ⟨hand, hand2⟩ := clear_bits hz
          have HAND2 := hidIt hand2
          have hkn : n.getLsbD (ctzB T) = true := by
            have : ctzB T ∈ members n := by rw [← HZM.out, members_step hz]; exact List.mem_append_right _ (List.mem_cons_self ..)
            exact (mem_members.1 this).2
          have hk40 : ctzB T < 40 := HN.out _ hkn
          have HM8 : Hid ((zs ++ [ctzB T]) ++ members (T &&& (T - 1#64)) = members n) := by
            show _ = _
            rw [← HZM.out, members_step HZ.out, List.append_assoc]
            rfl
          have HTr : Hid (Tab wr) := HT.out.but HB5.out HG.out (Nat.le_of_lt hP)
          have HRN : Hid (nRow A (zs ++ [ctzB T]) c1 = nAt (A (ctzB T)) (ctzB T) (nRow A zs c1)) := by
            show _ = _
            unfold nRow
            rw [List.foldl_append]
            rfl
          have hlt := clear_lt HZ.out
          have HTZ := hidIt (tz_any T _ HTr.out)
          clear hz hand2
          generalize ctzB T = k at *
          go_wp2_with fail
          refine HTZ.out.mono ?_
          rintro e w5 ⟨rfl, rfl⟩
          go_wp2_with fail
          refine (sNarrowAt_any P k n A _ vf t _ hk40 HD5.out).mono ?_
          rintro e w6 ⟨rfl, hd6, hb6⟩
          have HD6 := hidIt hd6
          have HB6 := hidIt (HB5.out.trans hb6)
          have HX6 := hidIt (HX5.out.but hb6 hPne.symm)
          clear hd6 hb6 HD5 HB5 HX5
          rw [← HRN.out] at HD6
          go_wp2_with fail
          go_roundw
          case rel => exact ⟨T &&& (T - 1#64), zs ++ [k], (by first | rfl | rw [hand]), HM8, HD6, HX6, HB6⟩
          case measure =>
            show Int.toNat _ < Int.toNat _
            first
              | (rw [HAND2.out]
                 show ((T &&& (T - 1#64)).toNat : Int).toNat < ((T.toNat : Int)).toNat
                 rw [Int.toNat_natCast, Int.toNat_natCast]
                 exact hlt)
              | (rw [hand]
                 show ((T &&& (T - 1#64)).toNat : Int).toNat < ((T.toNat : Int)).toNat
                 rw [Int.toNat_natCast, Int.toNat_natCast]
                 exact hlt)
end Go.Proofs.YtfiaoibfejginaaDoor

namespace Go.Proofs.YtfiaoibfejginaaDoor
set_option linter.unusedVariables false
set_option linter.unusedSimpArgs false
open Go Go.RowKit Go.Sort

theorem below_drew14 {B : Nat} {w w' : World} (h : Below B w w') (m : Nat) : Below B w (w'.drewN m) := ⟨h.os, h.tape, h.output, h.size, h.block⟩
theorem neg_not {C : BitVec 64} (h : ¬ C = 0#64) : -C = ~~~(C - 1#64) := by
  refine BitVec.eq_of_toNat_eq ?_
  have h1 := C.isLt
  have h2 := bv_ne h
  rw [BitVec.toNat_neg, BitVec.toNat_not, sub_one_bv h]
  omega
theorem low_one {C : BitVec 64} (h : ¬ C = 0#64) : C &&& -C = oneB (ctzB C) := by
  obtain ⟨h1, h2, -, h4⟩ := low_facts h
  rw [neg_not h]
  refine SubB.anti (fun j hj => ?_) (fun j hj => ?_)
  · obtain ⟨a1, a2⟩ := bit_sub.1 hj
    refine bit_oneB.2 ⟨h1, ?_⟩
    refine Classical.byContradiction fun hne => a2 ?_
    have := h4 j
    rw [a1, decide_eq_true hne] at this
    exact (bit_and.1 (this.trans rfl)).2
  · obtain ⟨-, rfl⟩ := bit_oneB.1 hj
    refine bit_sub.2 ⟨h2, fun a2 => ?_⟩
    have := h4 (ctzB C)
    rw [bit_and.2 ⟨h2, a2⟩, h2, decide_eq_false (fun h => h rfl)] at this
    cases this
theorem neg_bv (C : BitVec 64) : IntKind.u64.wrap (-(C.toNat : Int)) = ((-C).toNat : Int) := by
  rw [IntKind.wrap_u64, BitVec.toNat_neg]
  have := C.isLt
  omega
/-- The choice so far. -/
def ChI (c : Cn) (C : BitVec 64) : Prop := SubB C (c.i &&& ~~~c.sure) ∧ (C = 0#64 → SubB c.i c.sure)
theorem ChI.start (c : Cn) : ChI c (c.i &&& ~~~c.sure) := ⟨.refl _, fun h => sub_zero.1 h⟩
theorem ChI.next {A : Nat → BitVec 64} {n : BitVec 64} {c : Cn} {k : Nat} (hf : FullC n c) (hx : Fix A n c) (hk : n.getLsbD k = true) (hu : ¬ c.u.getLsbD k = true) (h : ((A k ||| oneB k) &&& c.i) &&& c.sure = 0#64) : ChI c ((A k ||| oneB k) &&& c.i) := by
  refine ⟨fun j hj => bit_sub.2 ⟨(bit_and.1 hj).2, and_zero.1 h j hj⟩, fun h0 => ?_⟩
  exfalso
  have hz := zero_iff.1 h0
  rcases (hf.bit k).1 hk with e | e | e
  · exact hz k (bit_and.2 ⟨bit_or.2 (.inr (bit_oneB.2 ⟨bit64 e, rfl⟩)), e⟩)
  · obtain ⟨j, hj, hj'⟩ := (hx k hk).o e
    exact hz j (bit_and.2 ⟨bit_or.2 (.inl hj), hj'⟩)
  · exact hu e
/-- What a choice is. -/
def Chosen (c : Cn) (S : BitVec 64) : Prop := (S = 0#64 → SubB c.i c.sure) ∧ (¬ S = 0#64 → ∃ k, S = oneB k ∧ c.i.getLsbD k = true ∧ ¬ c.sure.getLsbD k = true)
theorem ChI.fin {c : Cn} {C : BitVec 64} (h : ChI c C) : Chosen c (C &&& -C) := by
  by_cases hz : C = 0#64
  · subst hz
    refine ⟨fun _ => h.2 rfl, fun hne => absurd (by simp) hne⟩
  · rw [low_one hz]
    obtain ⟨h1, h2, -, -⟩ := low_facts hz
    obtain ⟨a1, a2⟩ := bit_sub.1 (h.1 _ h2)
    refine ⟨fun h0 => ?_, fun _ => ⟨_, rfl, a1, a2⟩⟩
    exfalso
    exact zero_iff.1 h0 _ (bit_oneB.2 ⟨h1, rfl⟩)

set_option maxRecDepth 100000 in
set_option maxHeartbeats 4000000 in
theorem sChoice_any (P : Nat) (n : BitVec 64) (A : Nat → BitVec 64) (c : Cn) (vf : Value) (t : Bool) (w : World) (h : SrW w P n A c vf t) (hT : Tab w) (hn : ∀ k, n.getLsbD k = true → k < 40) (hf : FullC n c) (hx : Fix A n c) :
    Calls Tryd.prog 64 #[.pointer (some ⟨P, 0, none⟩)] w fun e w' => ∃ S : BitVec 64, e = .returned (bv S) ∧ Chosen c S ∧ Below w.heap.size w w' := by
  have HT := hidIt hT
  have HN := hidIt hn
  have HFU := hidIt hf
  have HFX := hidIt hx
  have H := hidIt h
  have c0 := h.c0
  have c1 := h.c1
  have c2 := h.c2
  have c3 := h.c3
  have lP := h.lt
  clear h hT hn hf hx
  go_enter Tryd.func64, Tryd.ntmps64
  go_wp2_with fail
  refine (sSurely_any c _).mono ?_
  rintro e w1 ⟨rfl, hb1⟩
  have HB := hidIt hb1
  have HD := hidIt (H.out.go hb1)
  have HT1 := hidIt (HT.out.go hb1)
  clear H HT hb1 c0 c1 c2 c3 lP
  have cn := HD.out.n0
  have c1 := HD.out.c1
  have c3 := HD.out.c3
  have lP := HD.out.lt
  have HS1 := hidIt (bits_andNot_bv c.i c.sure)
  have HS2 := hidIt (bits_andNot_bv n c.u)
  go_upto_region 3 with (fail)
  rw [HS1.out]
  go_quiet (fail)
  rw [HS2.out]
  have HCI := hidIt (ChI.start c)
  have HKN : Hid (∀ k, k ∈ members (n &&& ~~~c.u) → n.getLsbD k = true ∧ ¬ c.u.getLsbD k = true) := fun k hk => bit_sub.1 (mem_members.1 hk).2
  generalize c.i &&& ~~~c.sure = C0 at *
  generalize n &&& ~~~c.u = T0 at *
  have HD1 : Hid (SrW (w1.drewN nq) P n A c vf t) := HD.out
  have HT2 : Hid (Tab (w1.drewN nq)) := HT1.out
  have HB1 : Hid (Below w.heap.size w (w1.drewN nq)) := below_drew14 HB.out nq
  generalize w1.drewN nq = w2 at *
  clear HD HT1 HB cn c1 c3 lP HS1 HS2
  go_wp2_with fail
  go_loopw [4, 5, 6] (fun v4 v5 v6 wr => ∃ (C T : BitVec 64) (m : Int), v4 = bv C ∧ v5 = .int .i64 m ∧ v6 = bv T ∧ Hid (ChI c C) ∧ Hid (∀ k, k ∈ members T → n.getLsbD k = true ∧ ¬ c.u.getLsbD k = true) ∧ Hid (SrW wr P n A c vf t) ∧ Hid (Tab wr) ∧ Hid (Below w.heap.size w wr)) (fun _ _ v6 _ => (intOf v6).toNat)
  case atStart => exact ⟨C0, T0, 41, rfl, rfl, rfl, HCI, HKN, HD1, HT2, HB1⟩
  case round =>
    obtain ⟨C, T, m, rfl, rfl, rfl, HC, HK, HD, HT, HB⟩ := hrel
    by_cases hz : T = 0#64
    · subst hz
      have HNG := hidIt (neg_bv C)
      have HAN := hidIt (bits_and_bv C (-C))
      go_wp2_with fail
      rw [HNG.out, HAN.out]
      go_ret
      exact ⟨_, rfl, HC.out.fin, HB.out⟩
    · have HZ := hidIt hz
      have hne : ((T.toNat : Int) != 0) = true := by have := bv_ne hz; simp; omega
      have hws := wrap_sub_one hz
      obtain ⟨hand, hand2⟩ := clear_bits hz
      have HAND2 := hidIt hand2
      obtain ⟨hkn, hku⟩ := HK.out (ctzB T) (by rw [members_step hz]; exact List.mem_cons_self ..)
      have hk40 : ctzB T < 40 := HN.out _ hkn
      have hk0 : (0 : Int) ≤ (ctzB T : Int) := by omega
      have hk40I : (ctzB T : Int) < 40 := by omega
      have HK8 : Hid (∀ k, k ∈ members (T &&& (T - 1#64)) → n.getLsbD k = true ∧ ¬ c.u.getLsbD k = true) := fun k hk => HK.out k (by rw [members_step HZ.out]; exact List.mem_cons_of_mem _ hk)
      have hlt := clear_lt HZ.out
      have HTZ := hidIt (tz_any T _ HT.out)
      have HNX := hidIt (fun h => ChI.next (k := ctzB T) HFU.out HFX.out hkn hku h)
      have hw1 := hidIt (wrap_one (show ctzB T < 64 by omega))
      clear hz hand2 hkn hku
      generalize ctzB T = k at *
      go_wp2_with fail
      refine HTZ.out.mono ?_
      rintro e w5 ⟨rfl, rfl⟩
      have ca := HD.out.by_ hk40
      have c1 := HD.out.c1
      have lP := HD.out.lt
      have HO1 := hidIt (bits_or_bv (A k) (oneB k))
      have HO2 := hidIt (bits_and_bv (A k ||| oneB k) c.i)
      go_upto_region 7 with (fail)
      go_quiet (fail)
      rw [hw1.out, HO1.out, HO2.out]
      have HDq : Hid (SrW (w5.drewN nq) P n A c vf t) := HD.out
      have HTq : Hid (Tab (w5.drewN nq)) := HT.out
      have HBq : Hid (Below w.heap.size w (w5.drewN nq)) := below_drew14 HB.out nq
      generalize w5.drewN nq = w6 at *
      clear ca c1 lP HD HT HB HTZ
      generalize (A k ||| oneB k) &&& c.i = S at *
      go_wp2_with fail
      refine (count_any S _).mono ?_
      rintro e w7 ⟨rfl, rfl⟩
      have hb := bits_and_bv S c.sure
      by_cases h1 : S &&& c.sure = 0#64
      · have ht1 := te_t hb h1
        clear hb
        by_cases h2 : ((members S).length : Int) < m
        · have HCN := hidIt (HNX.out h1)
          clear h1
          go_wp2_with fail
          go_roundw
          case rel => exact ⟨S, T &&& (T - 1#64), ((members S).length : Int), rfl, rfl, (by first | rfl | rw [hand]), HCN, HK8, HDq, HTq, HBq⟩
          case measure =>
            show Int.toNat _ < Int.toNat _
            rw [HAND2.out]
            show ((T &&& (T - 1#64)).toNat : Int).toNat < ((T.toNat : Int)).toNat
            rw [Int.toNat_natCast, Int.toNat_natCast]
            exact hlt
        · clear h1
          go_wp2_with fail
          go_roundw
          case rel => exact ⟨C, T &&& (T - 1#64), m, rfl, rfl, (by first | rfl | rw [hand]), HC, HK8, HDq, HTq, HBq⟩
          case measure =>
            show Int.toNat _ < Int.toNat _
            rw [HAND2.out]
            show ((T &&& (T - 1#64)).toNat : Int).toNat < ((T.toNat : Int)).toNat
            rw [Int.toNat_natCast, Int.toNat_natCast]
            exact hlt
      · have ht1 := te_f hb h1
        clear hb h1
        go_wp2_with fail
        go_roundw
        case rel => exact ⟨C, T &&& (T - 1#64), m, rfl, rfl, (by first | rfl | rw [hand]), HC, HK8, HDq, HTq, HBq⟩
        case measure =>
          show Int.toNat _ < Int.toNat _
          rw [HAND2.out]
          show ((T &&& (T - 1#64)).toNat : Int).toNat < ((T.toNat : Int)).toNat
          rw [Int.toNat_natCast, Int.toNat_natCast]
          exact hlt
end Go.Proofs.YtfiaoibfejginaaDoor
