/- The reference's Parse, for every text. -/
import Derived.Test.YtfcoplplkbeljaaGreatDoorZ1R5lofC
import Derived.Test.YtfcoplplkbeljaaGreatDoorZ1R
import Derived.Test.YtfcoplplkbeljaaGreatDoorZ1K5e
import Derived.Test.YtfcoplplkbeljaaGreatDoorZ1N

namespace Go.Proofs.YtfcoplplkbeljaaGreatDoor
set_option linter.unusedVariables false
set_option linter.unusedSimpArgs false
open Go Go.RowKit

def kI : It5 → Int
  | .no => 0
  | .pm _ => 1
  | .ru _ => 2
  | .pr _ => 3
def pI : It5 → Pm
  | .pm p => p
  | _ => noPm
def rI : It5 → Ru
  | .ru r => r
  | _ => noRu
def qI : It5 → Pr
  | .pr q => q
  | _ => noPr
/-- The kind of the line that was added last. -/
def lastK (b : Bs) : Int := if 0 < b.proms.length then 3 else if 0 < b.rules.length then 2 else if 0 < b.prems.length then 1 else 0
theorem lastK_bd (b : Bs) : 0 ≤ lastK b ∧ lastK b ≤ 3 := by
  unfold lastK
  split
  · omega
  · split
    · omega
    · split <;> omega
theorem kI_bd : ∀ it : It5, 0 ≤ kI it ∧ kI it ≤ 3
  | .no => ⟨by show (0 : Int) ≤ 0; omega, by show (0 : Int) ≤ 3; omega⟩
  | .pm _ => ⟨by show (0 : Int) ≤ 1; omega, by show (1 : Int) ≤ 3; omega⟩
  | .ru _ => ⟨by show (0 : Int) ≤ 2; omega, by show (2 : Int) ≤ 3; omega⟩
  | .pr _ => ⟨by show (0 : Int) ≤ 3; omega, by show (3 : Int) ≤ 3; omega⟩
theorem addI_none {b : Bs} {it : It5} : addI b it = none ↔ kI it = 0 ∨ kI it < lastK b := by
  cases it with
  | no => simp [addI, kI]
  | pm p =>
    show (if b.rules = [] ∧ b.proms = [] then _ else none) = none ↔ (1 : Int) = 0 ∨ 1 < lastK b
    unfold lastK
    by_cases h1 : b.rules = [] <;> by_cases h2 : b.proms = []
    · rw [if_pos ⟨h1, h2⟩, h1, h2]
      simp
      split <;> omega
    · have : 0 < b.proms.length := List.length_pos_iff.2 h2
      rw [if_neg (fun e => h2 e.2), if_pos this]
      simp
    · have : 0 < b.rules.length := List.length_pos_iff.2 h1
      rw [if_neg (fun e => h1 e.1), h2]
      simp [this]
    · have : 0 < b.proms.length := List.length_pos_iff.2 h2
      rw [if_neg (fun e => h2 e.2), if_pos this]
      simp
  | ru r =>
    show (if b.proms = [] then _ else none) = none ↔ (2 : Int) = 0 ∨ 2 < lastK b
    unfold lastK
    by_cases h2 : b.proms = []
    · rw [if_pos h2, h2]
      simp
      split
      · omega
      · split <;> omega
    · have : 0 < b.proms.length := List.length_pos_iff.2 h2
      rw [if_neg h2, if_pos this]
      simp
  | pr q =>
    have h := (lastK_bd b).2
    simp only [addI, kI]
    constructor
    · intro h; cases h
    · rintro (h | h) <;> omega
theorem addI_last {b b' : Bs} {it : It5} (h : addI b it = some b') : lastK b' = kI it := by
  cases it with
  | no => cases h
  | pm p =>
    simp only [addI] at h
    split at h
    · rename_i hc
      injection h with h
      subst h
      simp [lastK, kI, hc.1, hc.2]
    · cases h
  | ru r =>
    simp only [addI] at h
    split at h
    · rename_i hc
      injection h with h
      subst h
      simp [lastK, kI, hc]
    · cases h
  | pr q =>
    simp only [addI] at h
    injection h with h
    subst h
    simp [lastK, kI]
theorem addI_len {b b' : Bs} {it : It5} (h : addI b it = some b') : b'.prems.length ≤ b.prems.length + 1 ∧ b'.rules.length ≤ b.rules.length + 1 ∧ b'.proms.length ≤ b.proms.length + 1 := by
  cases it with
  | no => cases h
  | pm p =>
    simp only [addI] at h
    split at h
    · injection h with h
      subst h
      simp
    · cases h
  | ru r =>
    simp only [addI] at h
    split at h
    · injection h with h
      subst h
      simp
    · cases h
  | pr q =>
    simp only [addI] at h
    injection h with h
    subst h
    simp
theorem snoc_ok {α : Type} {P : α → Prop} {xs : List α} {x : α} (h : ∀ y ∈ xs, P y) (hx : P x) : ∀ y ∈ xs ++ [x], P y := fun y hy => by
  rcases List.mem_append.1 hy with h1 | h1
  · exact h y h1
  · rw [List.mem_singleton.1 h1]; exact hx
theorem le12_max {n : Nat} (h : n ≤ 12) : n ≤ maxLen := Nat.le_trans h (by unfold maxLen; omega)
theorem addI_ok {b b' : Bs} {s : ByteArray} (hb : BsOk b) (h : addI b (itemOf s) = some b') : BsOk b' := by
  cases hi : itemOf s with
  | no => rw [hi] at h; cases h
  | pm p =>
    rw [hi] at h
    obtain ⟨g, -⟩ := item_pm hi
    simp only [addI] at h
    split at h
    · injection h with h
      subst h
      exact ⟨snoc_ok hb.1 ⟨le12_max (vn_le12 g.lit), g.src.elim (fun e => by omega) (fun e => le12_max (vn_le12 e)), by have := g.kind; unfold I64; omega, by have := g.rank; unfold I64; omega⟩, hb.2.1, hb.2.2⟩
    · cases h
  | ru r =>
    rw [hi] at h
    obtain ⟨g, -⟩ := item_ru hi
    simp only [addI] at h
    split at h
    · injection h with h
      subst h
      exact ⟨hb.1, snoc_ok hb.2.1 ⟨le12_max (vn_le12 g.name), by have := g.rank; unfold I64; omega, le12_max (vn_le12 g.head), fun x hx => le12_max (vn_le12 (g.body x hx))⟩, hb.2.2⟩
    · cases h
  | pr q =>
    rw [hi] at h
    obtain ⟨g, -⟩ := item_pr hi
    simp only [addI] at h
    injection h with h
    subst h
    exact ⟨hb.1, hb.2.1, snoc_ok hb.2.2 ⟨le12_max (vn_le12 g.rule), by have := g.rank; unfold I64; omega, le12_max (vn_le12 g.lit)⟩⟩
theorem refL_end {n : Nat} {b : Bs} {l : ByteArray} (h : l.size = 0) : refL n b [l] = (b, 0) := by rw [refL, if_pos h]
theorem refL_last {n : Nat} {b : Bs} {l : ByteArray} (h : ¬ l.size = 0) : refL n b [l] = (b, n) := by rw [refL, if_neg h]
theorem refL_bad {n : Nat} {b : Bs} {l : ByteArray} {r : List ByteArray} (hr : r ≠ []) (h : addI b (itemOf l) = none) : refL n b (l :: r) = (b, n) := by
  cases r with
  | nil => exact absurd rfl hr
  | cons m r => rw [refL, h]
theorem refL_good {n : Nat} {b b' : Bs} {l : ByteArray} {r : List ByteArray} (hr : r ≠ []) (h : addI b (itemOf l) = some b') : refL n b (l :: r) = refL (n + 1) b' r := by
  cases r with
  | nil => exact absurd rfl hr
  | cons m r => rw [refL, h]

/-- A line's value, by its parts. -/
theorem r5line_any (s : ByteArray) (hs : s.size ≤ 4096) (w : World) :
    Calls Tryz.prog 56 #[.string s] w fun e w' => ∃ (a : Option Addr) (n c : Nat), e = .returned (lineV (kI (itemOf s)) (pI (itemOf s)) (rI (itemOf s)) (.slice a n c) (qI (itemOf s))) ∧ (∀ r, itemOf s = .ru r → OwnL w' w.heap.size (.slice a n c) r.body) ∧ Below w.heap.size w w' :=
  (r5lineOf_any s hs w).mono fun e w' ⟨bv, he, ho, hb⟩ => by
    cases hi : itemOf s with
    | no => rw [hi] at he; exact ⟨none, 0, 0, he, fun r h => (by cases h), hb⟩
    | pm p => rw [hi] at he; exact ⟨none, 0, 0, he, fun r h => (by cases h), hb⟩
    | pr q => rw [hi] at he; exact ⟨none, 0, 0, he, fun r h => (by cases h), hb⟩
    | ru r =>
      rw [hi] at he
      have ho' := ho r hi
      obtain ⟨a, c, rfl, -⟩ := ho'.form5
      refine ⟨a, r.body.length, c, he, fun r' h => ?_, hb⟩
      injection h with h
      rw [← h]
      exact ho'

/-- A rule base begun: its rows lie behind B. -/
theorem BsIn.empty {w : World} {B R : Nat} (h : w.heap[R]? = some (.cells #[.slice none 0 0, .slice none 0 0, .slice none 0 0] 32 (0, 0))) (hB : R < B) : BsIn w B R noBs (.slice none 0 0) (.slice none 0 0) (.slice none 0 0) :=
  ⟨h, hB, OwnPm.nil _ _, OwnRu.nil _ _ _, OwnPr.nil _ _, fun g e => by simp [Value.ownBlock] at e, fun g e => by simp [Value.ownBlock] at e, fun g e => by simp [Value.ownBlock] at e⟩

/-- What stays beside the base under construction: the result's box, the lines' row gl, all that was there. -/
structure Env5 (w w1 : World) (gl B1 : Nat) (wr : World) : Prop where
  box : wr.heap[w.heap.size]? = some (.cells #[.slice none 0 0, .slice none 0 0, .slice none 0 0] 32 (0, 0))
  bel : Below w.heap.size w wr
  row : wr.heap[gl]? = w1.heap[gl]?
  big : B1 ≤ wr.heap.size
  lo : w.heap.size + 1 < gl
  hi : gl < B1
section
variable {w w1 wr w' : World} {gl B1 : Nat}
theorem Env5.more (h : Env5 w w1 gl B1 wr) (hb : Below wr.heap.size wr w') : Env5 w w1 gl B1 w' :=
  ⟨blk_kept2 h.box hb, h.bel.trans (Below.mono hb h.bel.size), (hb.block gl (by have := h.hi; have := h.big; omega)).trans h.row, Nat.le_trans h.big hb.size, h.lo, h.hi⟩
theorem Env5.app (h : Env5 w w1 gl B1 wr) {row : Option Nat} (hg : wr.grownBy w' row) (hr : ∀ g, row = some g → B1 ≤ g) : Env5 w w1 gl B1 w' := by
  have h1 := h.lo
  have h2 := h.hi
  have h3 := h.big
  exact ⟨(hg.block w.heap.size (by omega) (fun e => by have := hr _ e.symm; omega)).trans h.box, below_app5 h.bel hg (fun g e => by have := hr g e; omega) (by omega), (hg.block gl (by omega) (fun e => by have := hr _ e.symm; omega)).trans h.row, Nat.le_trans h.big hg.size, h.lo, h.hi⟩
theorem Env5.set (h : Env5 w w1 gl B1 wr) (i : Nat) (u : Value) : Env5 w w1 gl B1 (wr.setCell ⟨w.heap.size + 1, i, none⟩ u) := by
  have h1 := h.lo
  exact ⟨(Below.heap_setCell wr ⟨w.heap.size + 1, i, none⟩ u w.heap.size (by show w.heap.size ≠ w.heap.size + 1; omega)).trans h.box, below_set5 h.bel (Nat.le_succ _), (Below.heap_setCell wr ⟨w.heap.size + 1, i, none⟩ u gl (by show gl ≠ w.heap.size + 1; omega)).trans h.row, by rw [size_setCell]; exact h.big, h.lo, h.hi⟩
end

set_option maxRecDepth 100000 in
set_option maxHeartbeats 4000000 in
theorem r5parse_any (s : ByteArray) (hs : s.size ≤ maxLen) (w : World) :
    Calls Tryz.prog 17 #[.string s] w fun e w' => ∃ v : Value, e = .returned (.tuple #[v, .int .i64 ((parse5 s).2.1 : Int), .int .i64 (parse5 s).2.2]) ∧ BaseAt w' v (parse5 s).1 ∧ Below w.heap.size w w' := by
  unfold maxLen at hs
  by_cases hlong : 4096 < s.size
  · have HP : Hid (parse5 s = (noBs, 0, 2)) := by show _ = _; unfold parse5; rw [if_pos hlong]; rfl
    have hl : (4096 : Int) < (s.size : Int) := by omega
    clear hlong
    go_enter Tryz.func17, Tryz.ntmps17
    go_wp2_with fail
    refine bodyPost_ret (v := .tuple #[.agg #[.slice none 0 0, .slice none 0 0, .slice none 0 0], .int .i64 0, .int .i64 2]) (by simp [results, Tryz.results17, go_sem]) rfl ?_
    rw [HP.out]
    exact ⟨_, rfl, noBase _, by repeat (first | exact bgrow w _ | refine below_set5 ?_ (Nat.le_refl _))⟩
  have hl : decide ((4096 : Int) < (s.size : Int)) = false := by simp; omega
  have hs4 : s.size ≤ 4096 := by omega
  have hspz := splitW_size s 10
  have hspp := split_pos s 10
  have HP : Hid (parse5 s = parse5a (refL 1 noBs (splitW s 10))) := by show _ = _; rw [parse5_ref, if_neg hlong]; rfl
  have HSP := hidIt (r5split_any s 10 (by omega))
  generalize parse5 s = PR at *
  generalize splitW s 10 = L at *
  have HLS : Hid (∀ i (h : i < L.length), L[i].size ≤ 4096) := fun i h => by have := hspz.1 _ (List.getElem_mem h); omega
  have hLl : L.length ≤ 4097 := by omega
  have hL0 : ((0 : Int) < (L.length : Int)) := by omega
  have HZ := hidIt (heap_alloc_new w (.cells #[.slice none 0 0, .slice none 0 0, .slice none 0 0] 32))
  have HZ2 := hidIt (blk_kept2 HZ.out (bgrow (w.alloc (.cells #[.slice none 0 0, .slice none 0 0, .slice none 0 0] 32)) (.cells #[.slice none 0 0, .slice none 0 0, .slice none 0 0] 32)))
  have hR0 := heap_alloc_new (w.alloc (.cells #[.slice none 0 0, .slice none 0 0, .slice none 0 0] 32)) (.cells #[.slice none 0 0, .slice none 0 0, .slice none 0 0] 32)
  rw [size_alloc] at hR0
  have HR0 := hidIt hR0
  have HB0 := hidIt (bgrow2 w (.cells #[.slice none 0 0, .slice none 0 0, .slice none 0 0] 32) (.cells #[.slice none 0 0, .slice none 0 0, .slice none 0 0] 32))
  clear hlong HZ hs hspz hR0
  go_enter Tryz.func17, Tryz.ntmps17
  go_wp2_with fail
  generalize ((w.alloc (.cells #[.slice none 0 0, .slice none 0 0, .slice none 0 0] 32)).alloc (.cells #[.slice none 0 0, .slice none 0 0, .slice none 0 0] 32)) = w0 at *
  refine (HSP.out _).mono ?_
  rintro e w1 ⟨v, rfl, hown1, hb1⟩
  have HB1 := hidIt (HB0.out.trans (Below.mono hb1 HB0.out.size))
  have HZ1 := hidIt (blk_kept2 HZ2.out hb1)
  have hR1 := blk_kept2 HR0.out hb1
  have HBN := hidIt (BsIn.empty hR1 (lt_of_block hR1))
  obtain ⟨a, c, rfl, hc0⟩ := hown1.cells
  obtain ⟨gl, rfl, hgl, -⟩ := hc0 0 hspp
  have HCL : Hid (∀ i (hi : i < L.length), w1.cell? ⟨gl, i, none⟩ = some (.string L[i])) := fun i hi => by
    obtain ⟨g, hge, -, hcl⟩ := hc0 i hi
    injection hge with hge
    injection hge with hge
    subst hge
    exact hcl
  have HGL : Hid (w.heap.size + 1 < gl ∧ gl < w1.heap.size) := by
    have h1 := (owns_blk hown1 gl rfl).1
    have h2 := lt_of_block HR0.out
    exact ⟨by omega, hgl⟩
  obtain ⟨B1, hB1⟩ : ∃ B1, B1 = w1.heap.size := ⟨_, rfl⟩
  have HB1S := hidIt hB1
  rw [← hB1] at HBN HGL
  clear hb1 hown1 hc0 hgl HB0 HZ2 HR0 hR1 HSP hB1
  go_wp2_with fail
  go_loopw [6, 8] (fun v6 v8 wr => ∃ (k : Nat) (bb : Bs) (pv rv qv : Value), v6 = .int .i64 (lastK bb) ∧ v8 = .int .i64 (k : Int) ∧ k < L.length ∧ Hid (PR = parse5a (refL (k + 1) bb (L.drop k))) ∧ Hid (BsIn wr B1 (w.heap.size + 1) bb pv rv qv) ∧ Hid (BsOk bb) ∧
    Hid (bb.prems.length ≤ k ∧ bb.rules.length ≤ k ∧ bb.proms.length ≤ k) ∧ Hid (Env5 w w1 gl B1 wr)) (fun _ v8 _ => L.length - (intOf v8).toNat)
  case atStart => exact ⟨0, noBs, _, _, _, rfl, rfl, hspp, HP.out, HBN.out, ⟨fun p hp => by simp [noBs] at hp, fun p hp => by simp [noBs] at hp, fun p hp => by simp [noBs] at hp⟩, ⟨by simp [noBs], by simp [noBs], by simp [noBs]⟩, HZ1.out, HB1.out, rfl, Nat.le_of_eq HB1S.out, HGL.out.1, HGL.out.2⟩
  case round =>
    clear HP HBN HZ1 HB1 HB1S
    obtain ⟨k, bb, pv, rv, qv, rfl, rfl, hk, HPR, HBr, HOr, HCr, HEN⟩ := hrel
    have hkI : (k : Int) < (L.length : Int) := by omega
    have hk0 : (0 : Int) ≤ (k : Int) := by omega
    have hcx : wr.cell? ⟨gl, k, none⟩ = some (.string L[k]) := (World.cell?_of_block (w := w1) (w' := wr) (a := ⟨gl, k, none⟩) HEN.out.row).trans (HCL.out k hk)
    have hgx : gl < wr.heap.size := Nat.lt_of_lt_of_le HGL.out.2 HEN.out.big
    have hd : L.drop k = L[k] :: L.drop (k + 1) := List.drop_eq_getElem_cons hk
    have hls := HLS.out k hk
    have HLSK := hidIt hls
    generalize L[k] = l at *
    rw [hd] at HPR
    have hlz : l.size = l.toList.length := by rw [Lib.toList_data, Array.length_toList]; rfl
    obtain ⟨C1, hC1⟩ : ∃ C1, C1 = (decide (k + 1 = L.length) && decide (l.size = 0)) := ⟨_, rfl⟩
    have HC1 := hidIt hC1
    clear hC1 hd
    go_upto_region 9 with (fail)
    go_cut [34] from 17 to 87 (fun c wx => c = .bool C1 ∧ wr = wx)
    case first =>
      by_cases hlast : k + 1 = L.length
      · have hlI : ((k : Int) == (L.length : Int) - 1) = true := beq_iff_eq.2 (by omega)
        by_cases hz : l.size = 0
        · have hle : l.toList = [] := List.eq_nil_of_length_eq_zero (by omega)
          have hle2 : l.toList.isEmpty = true := by rw [hle]; rfl
          have EC : Hid (C1 = true) := by show _ = _; rw [HC1.out, decide_eq_true hlast, decide_eq_true hz]; rfl
          clear hlz hls hlast
          go_wp2_with fail
          go_meet
          exact ⟨by rw [EC.out], rfl⟩
        · obtain ⟨hle2, hle⟩ := notEmpty hz
          have EC : Hid (C1 = false) := by show _ = _; rw [HC1.out, decide_eq_true hlast, decide_eq_false hz]; rfl
          clear hlz hls hlast
          go_wp2_with fail
          go_meet
          exact ⟨by rw [EC.out], rfl⟩
      · have hlI : ((k : Int) == (L.length : Int) - 1) = false := beq_eq_false_iff_ne.2 (by omega)
        have EC : Hid (C1 = false) := by show _ = _; rw [HC1.out, decide_eq_false hlast]; rfl
        clear hlz hls
        go_wp2_with fail
        go_meet
        exact ⟨by rw [EC.out], rfl⟩
    obtain ⟨rfl, rfl⟩ := hcut
    cases C1
    case true =>
      have hC := HC1.out.symm
      rw [Bool.and_eq_true, decide_eq_true_eq, decide_eq_true_eq] at hC
      have HPb : Hid (PR = if baseE bb ≠ 0 then (noBs, 0, baseE bb) else (bb, 0, 0)) := by
        show _ = _
        rw [HPR.out, List.drop_of_length_le (by omega), refL_end hC.2]
        rfl
      obtain ⟨ap, cp, rfl, -, -⟩ := shape_own HBr.out.p
      obtain ⟨aq, cq, rfl, -, -⟩ := shape_own HBr.out.q
      obtain ⟨ar, cr, rfl, -, -⟩ := (show ∃ (a : Option Addr) (c : Nat), rv = .slice a bb.rules.length c ∧ bb.rules.length ≤ c ∧ c ≤ maxLen by obtain ⟨bs, -, ho, -⟩ := HBr.out.r; exact shape_own ho)
      obtain ⟨b0, b1, b2⟩ := bcell3 HBr.out.box
      have lb := lt_of_block HBr.out.box
      clear HPR HC1 hC hlz hls hcx
      go_wp2_with fail
      refine (r5validate_any bb HOr.out _ _ HBr.out.base).mono ?_
      rintro e w2 ⟨rfl, hb2⟩
      have HB2 := hidIt (HBr.out.go hb2)
      have HEN2 := HEN.out.more hb2
      have HZ2 := hidIt HEN2.box
      have HW2 := hidIt HEN2.bel
      clear hb2 HBr HEN HEN2 b0 b1 b2 lb
      obtain ⟨b0, b1, b2⟩ := bcell3 HB2.out.box
      obtain ⟨z0, z1, z2⟩ := bcell3 HZ2.out
      have f0 := free_any HZ2.out 0
      have f1 := free_any HZ2.out 1
      have f2 := free_any HZ2.out 2
      have lb := lt_of_block HB2.out.box
      have lz := lt_of_block HZ2.out
      generalize baseE bb = z at *
      by_cases hzz : z = 0
      · subst hzz
        have HPc : Hid (PR = (bb, 0, 0)) := by show _ = _; rw [HPb.out, if_neg (by decide)]
        clear HPb
        go_wp2_with fail
        refine bodyPost_ret (v := .tuple #[.agg #[.slice ap bb.prems.length cp, .slice ar bb.rules.length cr, .slice aq bb.proms.length cq], .int .i64 0, .int .i64 0]) (by simp [results, Tryz.results17, go_sem, z0, z1, z2, lz]) rfl ?_
        rw [HPc.out]
        refine ⟨_, rfl, BsIn.base (B := B1) (R := w.heap.size + 1) ?_, ?_⟩
        · repeat refine BsIn.set ?_ (by omega)
          exact HB2.out
        · repeat refine below_set5 ?_ (Nat.le_refl _)
          exact HW2.out
      · have hzb : (z == 0) = false := beq_eq_false_iff_ne.2 hzz
        have hzc : (z != 0) = true := bne_iff_ne.2 hzz
        have HPc : Hid (PR = (noBs, 0, z)) := by show _ = _; rw [HPb.out, if_pos hzz]
        clear HPb
        go_wp2_with fail
        refine bodyPost_ret (v := .tuple #[.agg #[.slice none 0 0, .slice none 0 0, .slice none 0 0], .int .i64 0, .int .i64 z]) (by simp [results, Tryz.results17, go_sem, z0, z1, z2, lz]) rfl ?_
        rw [HPc.out]
        refine ⟨_, rfl, noBase _, ?_⟩
        repeat refine below_set5 ?_ (Nat.le_refl _)
        exact HW2.out
    case false =>
      have HOK := hidIt (fun b' => @addI_ok bb b' l HOr.out)
      have HRB := hidIt (fun (h : addI bb (itemOf l) = none) (r : List ByteArray) (hr : r ≠ []) => refL_bad (n := k + 1) hr h)
      have HRG := hidIt (fun (b' : Bs) (h : addI bb (itemOf l) = some b') (r : List ByteArray) (hr : r ≠ []) => refL_good (n := k + 1) hr h)
      have HLN := hidIt (r5line_any l HLSK.out)
      generalize itemOf l = IT at *
      clear hlz hls
      go_wp2_with fail
      refine (HLN.out _).mono ?_
      rintro e w2 ⟨a5, n5, c5, rfl, hob, hb2⟩
      unfold lineV
      have hgr3 := bgrow w2 (.cells #[.int .i64 (kI IT), .bool (pI IT).lit.neg, .string (pI IT).lit.name, .int .i64 (pI IT).kind, .int .i64 (pI IT).rank, .string (pI IT).src, .string (rI IT).name, .bool (rI IT).strict, .int .i64 (rI IT).rank, .slice a5 n5 c5, .bool (rI IT).head.neg, .string (rI IT).head.name, .string (qI IT).rule, .int .i64 (qI IT).rank, .bool (qI IT).lit.neg, .string (qI IT).lit.name] 88)
      have HXB := hidIt (heap_alloc_new w2 (.cells #[.int .i64 (kI IT), .bool (pI IT).lit.neg, .string (pI IT).lit.name, .int .i64 (pI IT).kind, .int .i64 (pI IT).rank, .string (pI IT).src, .string (rI IT).name, .bool (rI IT).strict, .int .i64 (rI IT).rank, .slice a5 n5 c5, .bool (rI IT).head.neg, .string (rI IT).head.name, .string (qI IT).rule, .int .i64 (qI IT).rank, .bool (qI IT).lit.neg, .string (qI IT).lit.name] 88))
      have hb3 := hb2.trans (Below.mono hgr3 hb2.size)
      have HB3 := hidIt (HBr.out.go hb3)
      have HEN3 := hidIt (HEN.out.more hb3)
      have HBD : Hid (∀ r, IT = .ru r → BodyIn (w2.alloc (.cells #[.int .i64 (kI IT), .bool (pI IT).lit.neg, .string (pI IT).lit.name, .int .i64 (pI IT).kind, .int .i64 (pI IT).rank, .string (pI IT).src, .string (rI IT).name, .bool (rI IT).strict, .int .i64 (rI IT).rank, .slice a5 n5 c5, .bool (rI IT).head.neg, .string (rI IT).head.name, .string (qI IT).rule, .int .i64 (qI IT).rank, .bool (qI IT).lit.neg, .string (qI IT).lit.name] 88)) (fun k => (B1 ≤ k ∧ pv.ownBlock ≠ some k ∧ qv.ownBlock ≠ some k) ∧ rv.ownBlock ≠ some k) (.slice a5 n5 c5) r.body) := fun r hr => by
        refine OwnL.bodyIn ((hob r hr).go hgr3) fun k hk => ⟨⟨by have := HEN.out.big; omega, fun e => ?_, fun e => ?_⟩, fun e => ?_⟩
        · have := (owns_blk HBr.out.p k e).2; omega
        · have := (owns_blk HBr.out.q k e).2; omega
        · have := (HBr.out.r.blk k e).2; omega
      clear hgr3 hb3 hb2 hob HBr HEN hcx
      go_upto_region 11 with (fail)
      obtain ⟨P, hP⟩ : ∃ P, P = w2.heap.size := ⟨_, rfl⟩
      rw [← hP] at HXB ⊢
      clear hP
      generalize (w2.alloc (.cells #[.int .i64 (kI IT), .bool (pI IT).lit.neg, .string (pI IT).lit.name, .int .i64 (pI IT).kind, .int .i64 (pI IT).rank, .string (pI IT).src, .string (rI IT).name, .bool (rI IT).strict, .int .i64 (rI IT).rank, .slice a5 n5 c5, .bool (rI IT).head.neg, .string (rI IT).head.name, .string (qI IT).rule, .int .i64 (qI IT).rank, .bool (qI IT).lit.neg, .string (qI IT).lit.name] 88)) = w3 at *
      obtain ⟨E, hE⟩ : ∃ E, E = (decide (kI IT = 0 ∨ kI IT < lastK bb) || decide (k + 1 = L.length)) := ⟨_, rfl⟩
      have HE := hidIt hE
      clear hE
      go_cut [55] from 17 to 87 (fun c wx => c = .bool E ∧ w3 = wx)
      case first =>
        obtain ⟨z0, z1, z2, z3, z4, z5, z6, z7, z8, z9, za, zb, zc, zd, ze, zf⟩ := bcell16 HXB.out
        have lx := lt_of_block HXB.out
        have hkb := kI_bd IT
        have hlb := lastK_bd bb
        obtain ⟨hkb1, hkb2⟩ := hkb
        obtain ⟨hlb1, hlb2⟩ := hlb
        by_cases h0 : kI IT = 0
        · have h0b : (kI IT == 0) = true := beq_iff_eq.2 h0
          have EE : Hid (E = true) := by show _ = _; rw [HE.out, decide_eq_true (Or.inl h0)]; rfl
          go_wp2_with fail
          go_meet
          exact ⟨by rw [EE.out], rfl⟩
        · have h0b : (kI IT == 0) = false := beq_eq_false_iff_ne.2 h0
          by_cases h1 : kI IT < lastK bb
          · have EE : Hid (E = true) := by show _ = _; rw [HE.out, decide_eq_true (Or.inr h1)]; rfl
            go_wp2_with fail
            go_meet
            exact ⟨by rw [EE.out], rfl⟩
          · by_cases hlast : k + 1 = L.length
            · have hlI : ((k : Int) == (L.length : Int) - 1) = true := beq_iff_eq.2 (by omega)
              have EE : Hid (E = true) := by show _ = _; rw [HE.out, decide_eq_true hlast, Bool.or_true]
              clear hlast
              go_wp2_with fail
              go_meet
              exact ⟨by rw [EE.out], rfl⟩
            · have hlI : ((k : Int) == (L.length : Int) - 1) = false := beq_eq_false_iff_ne.2 (by omega)
              have EE : Hid (E = false) := by show _ = _; rw [HE.out, decide_eq_false hlast, decide_eq_false (not_or.2 ⟨h0, h1⟩)]; rfl
              go_wp2_with fail
              go_meet
              exact ⟨by rw [EE.out], rfl⟩
      obtain ⟨rfl, rfl⟩ := hcut
      cases E
      case true =>
        have HPX : Hid (PR = (noBs, k + 1, 3)) := by
          show _ = _
          have hl : refL (k + 1) bb (l :: L.drop (k + 1)) = (bb, k + 1) := by
            by_cases hlast : k + 1 = L.length
            · rw [List.drop_of_length_le (by omega)]
              refine refL_last (fun hz => ?_)
              have := HC1.out
              rw [decide_eq_true hlast, decide_eq_true hz] at this
              cases this
            · refine HRB.out ?_ _ (fun e => ?_)
              · have := HE.out.symm
                rw [decide_eq_false hlast, Bool.or_false, decide_eq_true_eq] at this
                exact addI_none.2 this
              · have := congrArg List.length e
                rw [List.length_drop] at this
                simp at this
                omega
          rw [HPR.out, hl, parse5a_bad]
        have HZX := hidIt HEN3.out.box
        have HWX := hidIt HEN3.out.bel
        clear HPR HB3 HEN3 HXB HBD HOK HRB HRG HC1 HE
        obtain ⟨z0, z1, z2⟩ := bcell3 HZX.out
        have f0 := free_any HZX.out 0
        have f1 := free_any HZX.out 1
        have f2 := free_any HZX.out 2
        have lz := lt_of_block HZX.out
        go_wp2_with fail
        refine bodyPost_ret (v := .tuple #[.agg #[.slice none 0 0, .slice none 0 0, .slice none 0 0], .int .i64 ((k + 1 : Nat) : Int), .int .i64 3]) (by simp [results, Tryz.results17, go_sem, z0, z1, z2, lz]) rfl ?_
        rw [HPX.out]
        refine ⟨_, rfl, noBase _, ?_⟩
        repeat refine below_set5 ?_ (Nat.le_refl _)
        exact HWX.out
      case false =>
        have hE := HE.out.symm
        rw [Bool.or_eq_false_iff, decide_eq_false_iff_not, decide_eq_false_iff_not] at hE
        obtain ⟨hE1, hE2⟩ := hE
        have hk2 : k + 1 < L.length := by omega
        obtain ⟨b', hb'⟩ : ∃ b', addI bb IT = some b' := by
          cases hx : addI bb IT with
          | none => exact absurd (addI_none.1 hx) hE1
          | some b' => exact ⟨b', rfl⟩
        have HPR2 : Hid (PR = parse5a (refL (k + 1 + 1) b' (L.drop (k + 1)))) := by
          show _ = _
          rw [HPR.out, HRG.out b' hb' _ (fun e => by
            have := congrArg List.length e
            rw [List.length_drop] at this
            simp at this
            omega)]
        have HOKB := hidIt (HOK.out b' hb')
        have HLKB := hidIt (addI_last hb')
        have HLENB : Hid (b'.prems.length ≤ k + 1 ∧ b'.rules.length ≤ k + 1 ∧ b'.proms.length ≤ k + 1) := by
          have h1 := addI_len hb'
          have h2 := HCr.out
          show _ ∧ _
          omega
        clear HPR HOK HRB HRG HC1 HE hE1 hE2
        cases IT with
        | no => cases hb'
        | pm p =>
          simp only [addI] at hb'
          split at hb'
          case isFalse => cases hb'
          injection hb' with hb'
          subst hb'
          have HX : Hid (w3.heap[P]? = some (.cells #[.int .i64 1, .bool p.lit.neg, .string p.lit.name, .int .i64 p.kind, .int .i64 p.rank, .string p.src, .string ⟨#[]⟩, .bool false, .int .i64 0, .slice a5 n5 c5, .bool false, .string ⟨#[]⟩, .string ⟨#[]⟩, .int .i64 0, .bool false, .string ⟨#[]⟩] 88 (0, 0))) := HXB.out
          obtain ⟨z0, z1, z2, z3, z4, z5, z6, z7, z8, z9, za, zb, zc, zd, ze, zf⟩ := bcell16 HX.out
          have lx := lt_of_block HX.out
          obtain ⟨k0, k1, k2⟩ := bcell3 HB3.out.box
          have lR := lt_of_block HB3.out.box
          have hbx := bgrow w3 (.cells #[.bool p.lit.neg, .string p.lit.name, .int .i64 p.kind, .int .i64 p.rank, .string p.src] 74)
          have HRa := hidIt (HB3.out.go hbx)
          have HEa := hidIt (HEN3.out.more hbx)
          obtain ⟨ap, cp, rfl, -, -⟩ := shape_own HRa.out.p
          clear hbx HX HXB
          go_wp2_with (at_builtin; refine Hid.out ?_)
          refine hidIt ?_
          refine wpList_append_kb rfl _ _ elemPm rfl B1 (.slice ap bb.prems.length cp) bb.prems.length _ rfl HRa.out.p _ 1 rfl #[.bool p.lit.neg, .string p.lit.name, .int .i64 p.kind, .int .i64 p.rank, .string p.src] 74 (heap_alloc_new _ _) rfl (one_of (by rfl)) (by have := HCr.out; omega) (by have := HEa.out.big; omega) ?_
          intro g8 c8 w8 hown8 hg8 hbl8
          have hOB : ∀ g, (Value.slice ap bb.prems.length cp).ownBlock = some g → B1 ≤ g := fun g e => ((owns_blk HRa.out.p) g e).1
          have HR9 := hidIt (HRa.out.addP (p := p) hown8 hg8 hbl8)
          have HE9 := hidIt ((HEa.out.app hg8 hOB).set 0 (Value.slice (some ⟨g8, 0, none⟩) (bb.prems.length + 1) c8))
          have hb8 := (hg8.block (w.heap.size + 1) (lt_of_block HRa.out.box) (fun e => by have := hOB _ e.symm; have := HEa.out.lo; have := HEa.out.hi; omega)).trans HRa.out.box
          obtain ⟨k0', k1', k2'⟩ := bcell3 hb8
          have f8 := free_any hb8 0
          have l8 := lt_of_block hb8
          clear hown8 hg8 hbl8 hb8 k0 k1 k2 z0 z1 z2 z3 z4 z5 z6 z7 z8 z9 za zb zc zd ze zf lx hOB
          go_wp2_with fail
          go_roundw
          case rel => exact ⟨k + 1, _, _, _, _, by rw [HLKB.out]; rfl, by go_num, hk2, HPR2.out, HR9.out, HOKB.out, HLENB.out, HE9.out⟩
          case measure => simp [intOf]; omega
        | ru r =>
          simp only [addI] at hb'
          split at hb'
          case isFalse => cases hb'
          injection hb' with hb'
          subst hb'
          have HX : Hid (w3.heap[P]? = some (.cells #[.int .i64 2, .bool false, .string ⟨#[]⟩, .int .i64 0, .int .i64 0, .string ⟨#[]⟩, .string r.name, .bool r.strict, .int .i64 r.rank, .slice a5 n5 c5, .bool r.head.neg, .string r.head.name, .string ⟨#[]⟩, .int .i64 0, .bool false, .string ⟨#[]⟩] 88 (0, 0))) := HXB.out
          obtain ⟨z0, z1, z2, z3, z4, z5, z6, z7, z8, z9, za, zb, zc, zd, ze, zf⟩ := bcell16 HX.out
          have lx := lt_of_block HX.out
          obtain ⟨k0, k1, k2⟩ := bcell3 HB3.out.box
          have lR := lt_of_block HB3.out.box
          have hbx := bgrow w3 (.cells #[.string r.name, .bool r.strict, .int .i64 r.rank, .slice a5 n5 c5, .bool r.head.neg, .string r.head.name] 64)
          have HRa := hidIt (HB3.out.go hbx)
          have HEa := hidIt (HEN3.out.more hbx)
          have HBDa := hidIt ((HBD.out r rfl).grown (only_of_below hbx none) (fun g e => by cases e))
          obtain ⟨vs, hvl, ho, hf⟩ := HRa.out.r
          obtain ⟨ar, cr, rfl, -, -⟩ := shape_own ho
          have HF := hidIt hf
          have HO := hidIt ho
          have HVL := hidIt hvl
          clear ho hf hvl
          clear hbx HX HXB
          go_wp2_with (at_builtin; refine Hid.out ?_)
          refine hidIt ?_
          refine wpList_append_kb rfl _ _ elemRu rfl B1 (.slice ar bb.rules.length cr) bb.rules.length _ rfl HO.out _ 1 rfl #[.string r.name, .bool r.strict, .int .i64 r.rank, .slice a5 n5 c5, .bool r.head.neg, .string r.head.name] 64 (heap_alloc_new _ _) rfl (one_of (by rfl)) (by have := HCr.out; omega) (by have := HEa.out.big; omega) ?_
          intro g8 c8 w8 hown8 hg8 hbl8
          have hOB : ∀ g, (Value.slice ar bb.rules.length cr).ownBlock = some g → B1 ≤ g := fun g e => (HRa.out.r.blk g e).1
          have HR9 := hidIt (HRa.out.addR (r := r) HVL.out HF.out hown8 hg8 hbl8 HBDa.out)
          have HE9 := hidIt ((HEa.out.app hg8 hOB).set 1 (Value.slice (some ⟨g8, 0, none⟩) (bb.rules.length + 1) c8))
          have hb8 := (hg8.block (w.heap.size + 1) (lt_of_block HRa.out.box) (fun e => by have := hOB _ e.symm; have := HEa.out.lo; have := HEa.out.hi; omega)).trans HRa.out.box
          obtain ⟨k0', k1', k2'⟩ := bcell3 hb8
          have f8 := free_any hb8 1
          have l8 := lt_of_block hb8
          clear hown8 hg8 hbl8 hb8 k0 k1 k2 z0 z1 z2 z3 z4 z5 z6 z7 z8 z9 za zb zc zd ze zf lx hOB
          go_wp2_with fail
          go_roundw
          case rel => exact ⟨k + 1, _, _, _, _, by rw [HLKB.out]; rfl, by go_num, hk2, HPR2.out, HR9.out, HOKB.out, HLENB.out, HE9.out⟩
          case measure => simp [intOf]; omega
        | pr q =>
          simp only [addI] at hb'
          injection hb' with hb'
          subst hb'
          have HX : Hid (w3.heap[P]? = some (.cells #[.int .i64 3, .bool false, .string ⟨#[]⟩, .int .i64 0, .int .i64 0, .string ⟨#[]⟩, .string ⟨#[]⟩, .bool false, .int .i64 0, .slice a5 n5 c5, .bool false, .string ⟨#[]⟩, .string q.rule, .int .i64 q.rank, .bool q.lit.neg, .string q.lit.name] 88 (0, 0))) := HXB.out
          obtain ⟨z0, z1, z2, z3, z4, z5, z6, z7, z8, z9, za, zb, zc, zd, ze, zf⟩ := bcell16 HX.out
          have lx := lt_of_block HX.out
          obtain ⟨k0, k1, k2⟩ := bcell3 HB3.out.box
          have lR := lt_of_block HB3.out.box
          have hbx := bgrow w3 (.cells #[.string q.rule, .int .i64 q.rank, .bool q.lit.neg, .string q.lit.name] 78)
          have HRa := hidIt (HB3.out.go hbx)
          have HEa := hidIt (HEN3.out.more hbx)
          obtain ⟨aq, cq, rfl, -, -⟩ := shape_own HRa.out.q
          clear hbx HX HXB
          go_wp2_with (at_builtin; refine Hid.out ?_)
          refine hidIt ?_
          refine wpList_append_kb rfl _ _ elemPr rfl B1 (.slice aq bb.proms.length cq) bb.proms.length _ rfl HRa.out.q _ 1 rfl #[.string q.rule, .int .i64 q.rank, .bool q.lit.neg, .string q.lit.name] 78 (heap_alloc_new _ _) rfl (one_of (by rfl)) (by have := HCr.out; omega) (by have := HEa.out.big; omega) ?_
          intro g8 c8 w8 hown8 hg8 hbl8
          have hOB : ∀ g, (Value.slice aq bb.proms.length cq).ownBlock = some g → B1 ≤ g := fun g e => ((owns_blk HRa.out.q) g e).1
          have HR9 := hidIt (HRa.out.addQ (p := q) hown8 hg8 hbl8)
          have HE9 := hidIt ((HEa.out.app hg8 hOB).set 2 (Value.slice (some ⟨g8, 0, none⟩) (bb.proms.length + 1) c8))
          have hb8 := (hg8.block (w.heap.size + 1) (lt_of_block HRa.out.box) (fun e => by have := hOB _ e.symm; have := HEa.out.lo; have := HEa.out.hi; omega)).trans HRa.out.box
          obtain ⟨k0', k1', k2'⟩ := bcell3 hb8
          have f8 := free_any hb8 2
          have l8 := lt_of_block hb8
          clear hown8 hg8 hbl8 hb8 k0 k1 k2 z0 z1 z2 z3 z4 z5 z6 z7 z8 z9 za zb zc zd ze zf lx hOB
          go_wp2_with fail
          go_roundw
          case rel => exact ⟨k + 1, _, _, _, _, by rw [HLKB.out]; rfl, by go_num, hk2, HPR2.out, HR9.out, HOKB.out, HLENB.out, HE9.out⟩
          case measure => simp [intOf]; omega
end Go.Proofs.YtfcoplplkbeljaaGreatDoor
