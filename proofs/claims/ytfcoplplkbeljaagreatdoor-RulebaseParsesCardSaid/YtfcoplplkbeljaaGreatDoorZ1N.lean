/- strings.Cut at a line feed; one line of whatever kind. Parse of a rule base's text. Words that are joined by single spaces are found again by strings.Fields. The reader finds a base's premises, rules and promotions in their lines again. Parse of a valid base's text gives the base; the text of what Parse returns is the text. A rule base that is built out of letters and numbered names is without error; its text is short. -/
import Derived.Test.YtfcoplplkbeljaaGreatDoorZ1B5ac
import Derived.Test.YtfcoplplkbeljaaGreatDoorZ1B5ad
import Derived.Test.YtfcoplplkbeljaaGreatDoorZ1B5ae
import Derived.Lib.IndexLaws
import Derived.Test.YtfcoplplkbeljaaGreatDoorRows
import Derived.Lib.SpaceUEq
import Derived.Test.YtfcoplplkbeljaaGreatDoorZ1D
import Derived.Test.YtfcoplplkbeljaaGreatDoorZ1L

namespace Go.Proofs.YtfcoplplkbeljaaGreatDoor
set_option linter.unusedVariables false
set_option linter.unusedSimpArgs false
open Go Go.RowKit

theorem ixN_cases (s : ByteArray) : (ixN s = -1) ∨ ∃ k : Nat, ixN s = (k : Int) ∧ k < s.size := by
  have hge := Lib.indexByte_ge s.data.toList 10
  by_cases h : ixN s = -1
  · exact .inl h
  · refine .inr ⟨(ixN s).toNat, ?_, ?_⟩
    · have : -1 ≤ ixN s := hge
      omega
    · have he : Lib.indexByte s.data.toList 10 = ((ixN s).toNat : Int) := by
        have : -1 ≤ ixN s := hge
        show ixN s = _
        omega
      have := (Lib.indexByte_some he).1
      have h2 := (List.getElem?_eq_some_iff.1 this).1
      rwa [Array.length_toList] at h2

set_option maxRecDepth 100000 in
set_option maxHeartbeats 1000000 in
theorem cut2_any (s : ByteArray) (hs : s.size ≤ 4096) (w : World) :
    Calls Tryz.prog 91 #[.string s, .string ⟨#[10]⟩] w fun e w' => e = .returned (.tuple #[.string (lineN s), .string (restN s), .bool (decide (0 ≤ ixN s))]) ∧ Below w.heap.size w w' := by
  rcases ixN_cases s with h | ⟨k, h, hk⟩
  · have e1 : lineN s = s := by unfold lineN; rw [h]; rfl
    have e2 : restN s = ⟨#[]⟩ := by unfold restN; rw [h]; rfl
    have e3 : decide (0 ≤ ixN s) = false := by rw [h]; rfl
    have HI : Hid (∀ wx, Calls Tryz.prog 131 #[.string s, .string ⟨#[10]⟩] wx fun e w' => e = .returned (.int .i64 (-1)) ∧ w' = wx) := fun wx => by
      have := Tryz.stringslite_Index_one s 10 wx
      rw [show Lib.indexByte s.data.toList 10 = -1 from h] at this
      exact this
    rw [e1, e2, e3]
    clear e1 e2 e3 h
    go_enter Tryz.func91, Tryz.ntmps91
    go_wp2_with fail
    refine (HI.out _).mono ?_
    rintro e w' ⟨rfl, rfl⟩
    go_wp2_with fail
    go_ret3
    exact ⟨rfl, Below.refl _ _⟩
  · have e1 : lineN s = s.extract 0 k := by unfold lineN; rw [h, if_pos (by omega)]; rfl
    have e2 : restN s = s.extract (k + 1) s.size := by unfold restN; rw [h, if_pos (by omega)]; rfl
    have e3 : decide (0 ≤ ixN s) = true := by rw [h]; exact decide_eq_true (by omega)
    have HI : Hid (∀ wx, Calls Tryz.prog 131 #[.string s, .string ⟨#[10]⟩] wx fun e w' => e = .returned (.int .i64 (k : Int)) ∧ w' = wx) := fun wx => by
      have := Tryz.stringslite_Index_one s 10 wx
      rw [show Lib.indexByte s.data.toList 10 = (k : Int) from h] at this
      exact this
    have HL := hidIt e1
    have HR := hidIt e2
    have HD := hidIt e3
    generalize lineN s = A at *
    generalize restN s = B at *
    generalize decide (0 ≤ ixN s) = D at *
    have c1 : (0 : Int) ≤ (k : Int) := by omega
    have c2 : (k : Int) ≤ (s.size : Int) := by omega
    have c3 : (0 : Int) ≤ (k : Int) + 1 := by omega
    have c4 : (k : Int) + 1 ≤ (s.size : Int) := by omega
    have c5 : k ≤ s.size := by omega
    have c6 : k + 1 ≤ s.size := by omega
    clear h e1 e2 e3
    go_enter Tryz.func91, Tryz.ntmps91
    go_wp2_with fail
    refine (HI.out _).mono ?_
    rintro e w' ⟨rfl, rfl⟩
    go_wp2_with fail
    go_region
    go_wp2_with fail
    all_goals
      go_ret3
      refine ⟨?_, (Below.refl _ _).drew⟩
      rw [HL.out, HR.out, HD.out]
      rfl

theorem cut5_any (s : ByteArray) (hs : s.size ≤ 4096) (w : World) :
    Calls Tryz.prog 52 #[.string s, .string ⟨#[10]⟩] w fun e w' => e = .returned (.tuple #[.string (lineN s), .string (restN s), .bool (decide (0 ≤ ixN s))]) ∧ Below w.heap.size w w' := by
  go_enter Tryz.func52, Tryz.ntmps52
  go_wp2_with fail
  refine (cut2_any s hs _).mono ?_
  rintro e w' ⟨rfl, hb⟩
  go_wp2_with fail
  go_ret3
  exact ⟨rfl, hb⟩

theorem addLine_any (E B Rb : Nat) (b : Bs) (pv rv qv : Value) (line : ByteArray) (hline : line.size ≤ 4096) (w : World) (hb : BsIn w B Rb b pv rv qv) (hE : EnvUp E w) (hEB : E ≤ Rb) (hB : B ≤ w.heap.size) (hn1 : b.prems.length ≤ 5000) (hn2 : b.rules.length ≤ 5000) (hn3 : b.proms.length ≤ 5000) :
    Calls Tryz.prog 53 #[.pointer (some ⟨Rb, 0, none⟩), .string line] w fun e w' => e = .returned (.bool (addL b line).2) ∧ (∃ pv' rv' qv', BsIn w' B Rb (addL b line).1 pv' rv' qv') ∧ Below Rb w w' := by
  cases h1 : (isStrict (hdW (wordsOf line)) || isRule (hdW (wordsOf line)))
  · cases h2 : isPromote (hdW (wordsOf line))
    · exact addLine_prem E B Rb b pv rv qv line hline w hb hE hEB hB hn1 hn2 hn3 h1 h2
    · exact addLine_prom E B Rb b pv rv qv line hline w hb hE hEB hB hn1 hn2 hn3 h1 h2
  · exact addLine_rule E B Rb b pv rv qv line hline w hb hE hEB hB hn1 hn2 hn3 _ rfl h1

theorem ok_of_le {n : Nat} (h : n ≤ 12) : n ≤ maxLen := by unfold maxLen; omega
theorem snoc_all {α : Type} {P : α → Prop} {xs : List α} {x : α} (h : ∀ y ∈ xs, P y) (hx : P x) : ∀ y ∈ xs ++ [x], P y := fun y hy => by
  rcases List.mem_append.1 hy with h1 | h1
  · exact h y h1
  · rw [List.mem_singleton.1 h1]; exact hx
theorem and3_l {a b c : Bool} (h : (!a && b && c) = true) : a = false := by cases a <;> simp_all
theorem and2_l {a b : Bool} (h : (!a && b) = true) : a = false := by cases a <;> simp_all
/-- A line that may be added adds what fits. -/
theorem addL_ok {b : Bs} {line : ByteArray} (hline : line.size ≤ 4096) (h : (addL b line).2 = true) (hb : BsOk b) : BsOk (addL b line).1 := by
  have hwt : (wordsOf line).tail.length ≤ 5000 := by have := (words_len line hline).1; rw [List.length_tail]; omega
  unfold addL addL2 at *
  split at h
  · rename_i h1
    rw [if_pos h1]
    obtain ⟨f1, f2, f3, f4, -⟩ := rdRule_fit (st := isStrict (hdW (wordsOf line))) (r := ⟨(wordsOf line).tail, false⟩) hwt (and3_l h)
    exact ⟨hb.1, snoc_all hb.2.1 ⟨ok_of_le f1, ⟨by omega, by omega⟩, ok_of_le f3, fun x hx => ok_of_le (f4 x hx)⟩, hb.2.2⟩
  · rename_i h1
    rw [if_neg h1]
    split at h
    · rename_i h2
      rw [if_pos h2]
      obtain ⟨f1, f2, f3⟩ := rdProm_fit (r := ⟨(wordsOf line).tail, false⟩) (and2_l h)
      exact ⟨hb.1, hb.2.1, snoc_all hb.2.2 ⟨ok_of_le f2, ⟨by omega, by omega⟩, ok_of_le f3⟩⟩
    · rename_i h2
      rw [if_neg h2]
      obtain ⟨f1, f2, f3, f4⟩ := rdPrem_fit (s := hdW (wordsOf line)) (r := ⟨(wordsOf line).tail, false⟩) (and3_l h)
      refine ⟨snoc_all hb.1 ⟨ok_of_le f4, ok_of_le f3, ?_, ⟨by omega, by omega⟩⟩, hb.2.1, hb.2.2⟩
      rcases f1 with h | h | h <;> rw [h] <;> exact ⟨by decide, by decide⟩
/-- A line makes each of the three lists longer by one at most. -/
theorem addL_len (b : Bs) (line : ByteArray) : (addL b line).1.prems.length ≤ b.prems.length + 1 ∧ (addL b line).1.rules.length ≤ b.rules.length + 1 ∧ (addL b line).1.proms.length ≤ b.proms.length + 1 := by
  unfold addL addL2
  split
  · simp [addRu]
  · split
    · simp [addPr]
    · simp [addPm]
theorem lineN_size (s : ByteArray) : (lineN s).size ≤ s.size := by
  unfold lineN
  split
  · rw [ByteArray.size_extract]; omega
  · exact Nat.le_refl _
theorem restN_size (s : ByteArray) (h : 0 ≤ ixN s) : (restN s).size + 1 ≤ s.size := by
  rcases ixN_cases s with h1 | ⟨k, h1, hk⟩
  · omega
  · unfold restN
    rw [if_pos h, ByteArray.size_extract, h1]
    simp
    omega
end Go.Proofs.YtfcoplplkbeljaaGreatDoor

namespace Go.Proofs.YtfcoplplkbeljaaGreatDoor
set_option linter.unusedVariables false
set_option linter.unusedSimpArgs false
open Go Go.RowKit

theorem empty_of_size {s : ByteArray} (h : s.size = 0) : s = ⟨#[]⟩ := by apply ByteArray.ext; exact Array.eq_empty_of_size_eq_zero h
theorem notEmpty {s : ByteArray} (h0 : ¬ s.size = 0) : s.toList.isEmpty = false ∧ ¬ s.toList = [] := by
  have hne : s.toList.isEmpty = false := by
    rw [Lib.toList_data]
    cases h : s.data.toList with
    | nil => exact absurd (by show s.data.size = 0; rw [← Array.length_toList, h]; rfl) h0
    | cons a l => rfl
  exact ⟨hne, fun h => by rw [h] at hne; cases hne⟩
theorem linesE_stop {f n : Nat} {b : Bs} {s : ByteArray} (h : s.size = 0) : linesE (f + 1) n b s = (b, 0) := by rw [linesE, if_pos h]
theorem linesE_bad {f n : Nat} {b : Bs} {s : ByteArray} (h : ¬ s.size = 0) (hb : (decide (0 ≤ ixN s) && (addL b (lineN s)).2) = false) : linesE (f + 1) n b s = (b, n) := by rw [linesE, if_neg h, if_neg (by rw [hb]; decide)]
theorem linesE_good {f n : Nat} {b : Bs} {s : ByteArray} (h : ¬ s.size = 0) (hb : (decide (0 ≤ ixN s) && (addL b (lineN s)).2) = true) : linesE (f + 1) n b s = linesE f (n + 1) (addL b (lineN s)).1 (restN s) := by rw [linesE, if_neg h, if_pos hb]
def noBs : Bs := ⟨[], [], []⟩
theorem noBase (w : World) : BaseAt w (.agg #[.slice none 0 0, .slice none 0 0, .slice none 0 0]) noBs := ⟨_, _, _, rfl, .inl ⟨noRow_nil, rfl⟩, .inl ⟨noRow_nil, rfl⟩, .inl ⟨noRow_nil, rfl⟩⟩

theorem BsIn.set {w : World} {B R : Nat} {b : Bs} {pv rv qv : Value} {g i : Nat} {u : Value} (h : BsIn w B R b pv rv qv) (hg : g < R) : BsIn (w.setCell ⟨g, i, none⟩ u) B R b pv rv qv := by
  have hlt := h.lt
  have hk : ∀ k, R ≤ k → (w.setCell ⟨g, i, none⟩ u).heap[k]? = w.heap[k]? := fun k hk => Below.heap_setCell w ⟨g, i, none⟩ u k (by show k ≠ g; omega)
  exact ⟨(hk R (Nat.le_refl _)).trans h.box, h.lt, owns_kept h.p fun k e => hk k (by have := (owns_blk h.p k e).1; omega), h.r.kept (fun k e => hk k (by have := (h.r.blk k e).1; omega)) (fun k hS _ => hk k (by have := hS.1; omega)) (by rw [size_setCell]; exact Nat.le_refl _) (fun k hS _ => hS), owns_kept h.q fun k e => hk k (by have := (owns_blk h.q k e).1; omega), h.pr, h.pq, h.rq⟩
theorem parse5a_bad (b : Bs) (n : Nat) : parse5a (b, n + 1) = (noBs, n + 1, 3) := by unfold parse5a; rw [if_pos (by show n + 1 ≠ 0; omega)]; rfl

set_option maxRecDepth 100000 in
set_option maxHeartbeats 4000000 in
theorem bparse_any (s : ByteArray) (hs : s.size ≤ maxLen) (w : World) (hE : EnvOk w) :
    Calls Tryz.prog 16 #[.string s] w fun e w' => ∃ v : Value, e = .returned (.tuple #[v, .int .i64 ((parse5 s).2.1 : Int), .int .i64 (parse5 s).2.2]) ∧ BaseAt w' v (parse5 s).1 ∧ Below w.heap.size w w' := by
  unfold maxLen at hs
  by_cases hlong : 4096 < s.size
  · have HP : Hid (parse5 s = (noBs, 0, 2)) := by show _ = _; unfold parse5; rw [if_pos hlong]; rfl
    have hl : (4096 : Int) < (s.size : Int) := by omega
    clear hlong hE
    go_enter Tryz.func16, Tryz.ntmps16
    go_wp2_with fail
    refine bodyPost_ret (v := .tuple #[.agg #[.slice none 0 0, .slice none 0 0, .slice none 0 0], .int .i64 0, .int .i64 2]) (by simp [results, Tryz.results16, go_sem]) rfl ?_
    rw [HP.out]
    exact ⟨_, rfl, noBase _, by repeat (first | exact bgrow w _ | refine below_set5 ?_ (Nat.le_refl _))⟩
  have hl : decide ((4096 : Int) < (s.size : Int)) = false := by simp; omega
  have HP : Hid (parse5 s = parse5a (linesE (s.size + 1) 1 noBs s)) := by show _ = _; unfold parse5; rw [if_neg hlong]; rfl
  have hs4 : s.size ≤ 4096 := by omega
  generalize parse5 s = PR at *
  obtain ⟨n0, hn0⟩ : ∃ n0, n0 = s.size := ⟨_, rfl⟩
  rw [← hn0] at HP
  have HLE : Hid (linesE (n0 + 1) 1 noBs s = linesE (n0 + 1) 1 noBs s) := by show _ = _; rfl
  have hn4 : n0 ≤ 4096 := by omega
  generalize hLE : linesE (n0 + 1) 1 noBs s = LE at HP
  have HL0 := hidIt hLE.symm
  have HZ := hidIt (heap_alloc_new w (.cells #[.slice none 0 0, .slice none 0 0, .slice none 0 0] 32))
  have hz1 := size_alloc w (.cells #[.slice none 0 0, .slice none 0 0, .slice none 0 0] 32)
  have HBN := hidIt (BsIn.new (w.alloc (.cells #[.slice none 0 0, .slice none 0 0, .slice none 0 0] 32)))
  have HZ2 := hidIt (blk_kept2 HZ.out (bgrow (w.alloc (.cells #[.slice none 0 0, .slice none 0 0, .slice none 0 0] 32)) (.cells #[.slice none 0 0, .slice none 0 0, .slice none 0 0] 32)))
  have HB0 := hidIt (bgrow2 w (.cells #[.slice none 0 0, .slice none 0 0, .slice none 0 0] 32) (.cells #[.slice none 0 0, .slice none 0 0, .slice none 0 0] 32))
  have HE0 := hidIt (EnvUp.start hE)
  rw [hz1] at HBN
  clear hLE HLE hE hlong HZ hz1 hs
  go_enter Tryz.func16, Tryz.ntmps16
  go_wp2_with fail
  generalize ((w.alloc (.cells #[.slice none 0 0, .slice none 0 0, .slice none 0 0] 32)).alloc (.cells #[.slice none 0 0, .slice none 0 0, .slice none 0 0] 32)) = w0 at *
  go_loopw [0, 6] (fun v0 v6 wr => ∃ (k : Nat) (sv : ByteArray) (bb : Bs) (pv rv qv : Value), v0 = .string sv ∧ v6 = .int .i64 ((k + 1 : Nat) : Int) ∧ sv.size + k ≤ n0 ∧ Hid (LE = linesE (n0 + 1 - k) (k + 1) bb sv) ∧ Hid (BsIn wr (w.heap.size + 1 + 1) (w.heap.size + 1) bb pv rv qv) ∧ Hid (BsOk bb) ∧
    Hid (bb.prems.length ≤ k ∧ bb.rules.length ≤ k ∧ bb.proms.length ≤ k) ∧ Hid (wr.heap[w.heap.size]? = some (.cells #[.slice none 0 0, .slice none 0 0, .slice none 0 0] 32 (0, 0))) ∧ Hid (Below w.heap.size w wr)) (fun v0 _ _ => match v0 with | .string x => x.size | _ => 0)
  case atStart => exact ⟨0, s, noBs, _, _, _, rfl, rfl, by omega, HL0.out, HBN.out, ⟨fun p hp => by simp [noBs] at hp, fun p hp => by simp [noBs] at hp, fun p hp => by simp [noBs] at hp⟩, ⟨by simp [noBs], by simp [noBs], by simp [noBs]⟩, HZ2.out, HB0.out⟩
  case round =>
    clear HL0 HBN HZ2 HB0
    obtain ⟨k, sv, bb, pv, rv, qv, rfl, rfl, hsk, HLr, HBr, HOr, HCr, HZr, HWr⟩ := hrel
    have hfu : n0 + 1 - k = (n0 - k) + 1 := by omega
    rw [hfu] at HLr
    clear hfu
    have hszr : w.heap.size + 1 + 1 ≤ wr.heap.size := by have := lt_of_block HBr.out.box; omega
    by_cases hz : sv.size = 0
    · have HLz : Hid (LE = (bb, 0)) := by show _ = _; rw [HLr.out, linesE_stop hz]
      obtain rfl := empty_of_size hz
      obtain ⟨ap, cp, rfl, -, -⟩ := shape_own HBr.out.p
      obtain ⟨aq, cq, rfl, -, -⟩ := shape_own HBr.out.q
      obtain ⟨ar, cr, rfl, -, -⟩ := (show ∃ (a : Option Addr) (c : Nat), rv = .slice a bb.rules.length c ∧ bb.rules.length ≤ c ∧ c ≤ maxLen by obtain ⟨bs, -, ho, -⟩ := HBr.out.r; exact shape_own ho)
      obtain ⟨b0, b1, b2⟩ := bcell3 HBr.out.box
      have lb := lt_of_block HBr.out.box
      clear HLr
      go_wp2_with fail
      refine (bvalidate_any bb HOr.out _ _ HBr.out.base).mono ?_
      rintro e w1 ⟨rfl, hb1⟩
      have HB1 := hidIt (HBr.out.go hb1)
      have HZ1 := hidIt (blk_kept2 HZr.out hb1)
      have HW1 := hidIt (HWr.out.trans (Below.mono hb1 (by omega)))
      have hs1 := hb1.size
      clear hb1 HBr HZr HWr b0 b1 b2 lb
      obtain ⟨b0, b1, b2⟩ := bcell3 HB1.out.box
      obtain ⟨z0, z1, z2⟩ := bcell3 HZ1.out
      have f0 := free_any HZ1.out 0
      have f1 := free_any HZ1.out 1
      have f2 := free_any HZ1.out 2
      have lb := lt_of_block HB1.out.box
      have lz := lt_of_block HZ1.out
      have HPb : Hid (PR = if baseE bb ≠ 0 then (noBs, 0, baseE bb) else (bb, 0, 0)) := by show _ = _; rw [HP.out, HLz.out]; rfl
      clear HP HLz
      generalize baseE bb = z at *
      by_cases hzz : z = 0
      · subst hzz
        have HPc : Hid (PR = (bb, 0, 0)) := by show _ = _; rw [HPb.out, if_neg (by decide)]
        clear HPb
        go_wp2_with fail
        refine bodyPost_ret (v := .tuple #[.agg #[.slice ap bb.prems.length cp, .slice ar bb.rules.length cr, .slice aq bb.proms.length cq], .int .i64 0, .int .i64 0]) (by simp [results, Tryz.results16, go_sem, z0, z1, z2, lz]) rfl ?_
        rw [HPc.out]
        refine ⟨_, rfl, BsIn.base (B := w.heap.size + 1 + 1) (R := w.heap.size + 1) ?_, ?_⟩
        · repeat refine BsIn.set ?_ (by omega)
          exact HB1.out
        · repeat refine below_set5 ?_ (Nat.le_refl _)
          exact HW1.out
      · have hzb : (z == 0) = false := beq_eq_false_iff_ne.2 hzz
        have HPc : Hid (PR = (noBs, 0, z)) := by show _ = _; rw [HPb.out, if_pos hzz]
        clear HPb
        go_wp2_with fail
        refine bodyPost_ret (v := .tuple #[.agg #[.slice none 0 0, .slice none 0 0, .slice none 0 0], .int .i64 0, .int .i64 z]) (by simp [results, Tryz.results16, go_sem, z0, z1, z2, lz]) rfl ?_
        rw [HPc.out]
        refine ⟨_, rfl, noBase _, ?_⟩
        repeat refine below_set5 ?_ (Nat.le_refl _)
        exact HW1.out
    · obtain ⟨hne1, hne2⟩ := notEmpty hz
      have hsv : sv.size ≤ 4096 := by omega
      have HCUT := hidIt (cut5_any sv hsv)
      have hls : (lineN sv).size ≤ 4096 := Nat.le_trans (lineN_size sv) hsv
      go_wp2_with fail
      refine (HCUT.out _).mono ?_
      rintro e w1 ⟨rfl, hb1⟩
      have HB1 := hidIt (HBr.out.go hb1)
      have HZ1 := hidIt (blk_kept2 HZr.out hb1)
      have HW1 := hidIt (HWr.out.trans (Below.mono hb1 (by omega)))
      have HE1 := hidIt (HE0.out.go HW1.out)
      have hs1 := hb1.size
      clear hb1 HBr HZr HWr HCUT
      have HXOK := hidIt (fun h => addL_ok (b := bb) (line := lineN sv) hls h HOr.out)
      have HXLN := hidIt (addL_len bb (lineN sv))
      have HRST := hidIt (restN_size sv)
      have HADD := hidIt (addLine_any w.heap.size (w.heap.size + 1 + 1) (w.heap.size + 1) bb pv rv qv (lineN sv) hls w1 HB1.out HE1.out (by omega) (by omega) (by have := HCr.out; omega) (by have := HCr.out; omega) (by have := HCr.out; omega))
      have HLB := hidIt (fun h => linesE_bad (f := n0 - k) (n := k + 1) (b := bb) hz h)
      have HLG := hidIt (fun h => linesE_good (f := n0 - k) (n := k + 1) (b := bb) hz h)
      generalize addL bb (lineN sv) = X at *
      generalize lineN sv = ln at *
      generalize restN sv = rs at *
      cases hD : decide (0 ≤ ixN sv)
      case false =>
        have HPX : Hid (PR = (noBs, k + 1, 3)) := by show _ = _; rw [HP.out, HLr.out, HLB.out (by first | rfl | (rw [hD]; rfl)), parse5a_bad]
        have HZX := HZ1
        have HWX := HW1
        clear HXOK HXLN HRST HADD HLB HLG HP HLr HB1 HZ1 HW1
        obtain ⟨z0, z1, z2⟩ := bcell3 HZX.out
        have f0 := free_any HZX.out 0
        have f1 := free_any HZX.out 1
        have f2 := free_any HZX.out 2
        have lz := lt_of_block HZX.out
        go_wp2_with fail
        refine bodyPost_ret (v := .tuple #[.agg #[.slice none 0 0, .slice none 0 0, .slice none 0 0], .int .i64 ((k + 1 : Nat) : Int), .int .i64 3]) (by simp [results, Tryz.results16, go_sem, z0, z1, z2, lz]) rfl ?_
        rw [HPX.out]
        refine ⟨_, rfl, noBase _, ?_⟩
        repeat refine below_set5 ?_ (Nat.le_refl _)
        exact HWX.out
      case true =>
        have hR2 := HRST.out (of_decide_eq_true hD)
        try rw [hD] at HLB HLG
        go_wp2_with fail
        refine HADD.out.mono ?_
        rintro e w2 ⟨rfl, ⟨pv', rv', qv', hb2⟩, hbel2⟩
        have HB2 := hidIt hb2
        have HZ2 := hidIt ((hbel2.block w.heap.size (by omega)).trans HZ1.out)
        have HW2 := hidIt (HW1.out.trans (Below.mono hbel2 (by omega)))
        clear hb2 hbel2 HB1 HZ1 HW1 HE1 HADD HRST
        obtain ⟨xb, xo⟩ := X
        cases xo
        case false =>
          have HPX : Hid (PR = (noBs, k + 1, 3)) := by show _ = _; rw [HP.out, HLr.out, HLB.out rfl, parse5a_bad]
          have HZX := HZ2
          have HWX := HW2
          clear HXOK HXLN HLB HLG HP HLr HB2 HZ2 HW2
          obtain ⟨z0, z1, z2⟩ := bcell3 HZX.out
          have f0 := free_any HZX.out 0
          have f1 := free_any HZX.out 1
          have f2 := free_any HZX.out 2
          have lz := lt_of_block HZX.out
          go_wp2_with fail
          refine bodyPost_ret (v := .tuple #[.agg #[.slice none 0 0, .slice none 0 0, .slice none 0 0], .int .i64 ((k + 1 : Nat) : Int), .int .i64 3]) (by simp [results, Tryz.results16, go_sem, z0, z1, z2, lz]) rfl ?_
          rw [HPX.out]
          refine ⟨_, rfl, noBase _, ?_⟩
          repeat refine below_set5 ?_ (Nat.le_refl _)
          exact HWX.out
        case true =>
          have HLN : Hid (LE = linesE (n0 + 1 - (k + 1)) (k + 1 + 1) xb rs) := by
            show _ = _
            rw [HLr.out, HLG.out rfl, show n0 + 1 - (k + 1) = n0 - k by omega]
          have HOX := hidIt (HXOK.out rfl)
          have HCX : Hid (xb.prems.length ≤ k + 1 ∧ xb.rules.length ≤ k + 1 ∧ xb.proms.length ≤ k + 1) := by
            have h1 := HXLN.out
            have h2 := HCr.out
            simp only at h1
            exact ⟨by omega, by omega, by omega⟩
          clear HXOK HXLN HLB HLG HLr HCr HOr
          go_wp2_with fail
          go_roundw
          case rel => exact ⟨k + 1, rs, xb, pv', rv', qv', rfl, by go_num, by omega, HLN.out, HB2.out, HOX.out, HCX.out, HZ2.out, HW2.out⟩
          case measure => simp; omega
end Go.Proofs.YtfcoplplkbeljaaGreatDoor

namespace Go.Proofs.YtfcoplplkbeljaaGreatDoor
set_option linter.unusedVariables false
set_option linter.unusedSimpArgs false

/-- A byte that is no white space, below 127. -/
def plainC (b : UInt8) : Bool := decide (33 ≤ b.toNat) && decide (b.toNat < 127)
def joinS : List (List UInt8) → List UInt8
  | [] => []
  | [w] => w
  | w :: v :: r => w ++ 32 :: joinS (v :: r)

theorem seqs_heads : Lib.spaceSeqs.all (fun q => match q with | [] => false | x :: _ => !plainC x) = true := by decide
theorem head_plain (b : UInt8) (t : List UInt8) (h : plainC b = true) : Lib.headSpace (b :: t) = 0 := by
  have hf : Lib.spaceSeqs.find? (·.isPrefixOf (b :: t)) = none := by
    rw [List.find?_eq_none]
    intro q hq
    have := List.all_eq_true.1 seqs_heads q hq
    match q, this with
    | x :: r, this =>
      intro hp
      simp only [List.isPrefixOf, Bool.and_eq_true, beq_iff_eq] at hp
      have h2 : (!plainC x) = true := this
      rw [hp.1, h] at h2
      cases h2
  unfold Lib.headSpace
  rw [hf]
  rfl
theorem head_space (t : List UInt8) : Lib.headSpace (32 :: t) = 1 := rfl

theorem go_word : ∀ (w : List UInt8) (cur : List UInt8) (f : Nat) (l : List UInt8), (∀ b ∈ w, plainC b = true) → Lib.fieldsGoU (f + w.length) cur (w ++ l) = Lib.fieldsGoU f (cur ++ w) l
  | [], cur, f, l, _ => by simp
  | b :: w, cur, f, l, h => by
    have ih := go_word w (cur ++ [b]) f l (fun x hx => h x (List.mem_cons_of_mem _ hx))
    rw [List.length_cons, show f + (w.length + 1) = (f + w.length) + 1 by omega, List.cons_append, Lib.fieldsGoU, if_pos (head_plain b _ (h b List.mem_cons_self)), ih, List.append_assoc]
    rfl

theorem join_fields : ∀ (ws : List (List UInt8)), (∀ w ∈ ws, w ≠ [] ∧ ∀ b ∈ w, plainC b = true) → ∀ f, (joinS ws).length < f → Lib.fieldsGoU f [] (joinS ws) = ws
  | [], _, f, _ => by
    rw [joinS, Lib.fieldsGoU_nil, if_pos rfl]
  | [w], h, f, hf => by
    obtain ⟨h1, h2⟩ := h w (List.mem_singleton.2 rfl)
    rw [joinS] at hf ⊢
    have e := go_word w [] (f - w.length) [] h2
    rw [show f - w.length + w.length = f by omega, List.append_nil, List.nil_append] at e
    rw [e, Lib.fieldsGoU_nil, if_neg h1]
  | w :: v :: r, h, f, hf => by
    obtain ⟨h1, h2⟩ := h w List.mem_cons_self
    have ih := join_fields (v :: r) (fun x hx => h x (List.mem_cons_of_mem _ hx)) (f - w.length - 1)
    rw [joinS] at hf ⊢
    rw [List.length_append, List.length_cons] at hf
    have e := go_word w [] (f - w.length) (32 :: joinS (v :: r)) h2
    rw [show f - w.length + w.length = f by omega, List.nil_append] at e
    rw [e, show f - w.length = (f - w.length - 1) + 1 by omega, Lib.fieldsGoU, head_space, if_neg (by decide), if_neg h1, List.drop_one, List.tail_cons, ih (by omega)]
    rfl

theorem fieldsD_join (ws : List (List UInt8)) (h : ∀ w ∈ ws, w ≠ [] ∧ ∀ b ∈ w, plainC b = true) : Lib.fieldsD (joinS ws) = ws := by
  rw [← Lib.fieldsU_eq]
  exact join_fields ws h _ (Nat.lt_succ_self _)
end Go.Proofs.YtfcoplplkbeljaaGreatDoor

namespace Go.Proofs.YtfcoplplkbeljaaGreatDoor
set_option linter.unusedVariables false
set_option linter.unusedSimpArgs false
open Go Go.RowKit

theorem bk (s : ByteArray) : (⟨s.data.toList.toArray⟩ : ByteArray) = s := by cases s; simp
/-- A byte of a name. -/
def nameC (b : UInt8) : Prop := (48 ≤ b.toNat ∧ b.toNat ≤ 57) ∨ b.toNat = 95 ∨ (97 ≤ b.toNat ∧ b.toNat ≤ 122)
theorem nameC.plain {b : UInt8} (h : nameC b) : plainC b = true := by
  unfold nameC at h
  unfold plainC
  rw [Bool.and_eq_true, decide_eq_true_eq, decide_eq_true_eq]
  omega
theorem nameC.ne {b c : UInt8} (h : nameC b) (hc : c.toNat = 58 ∨ c.toNat = 44 ∨ c.toNat = 126) : b ≠ c := by
  intro e
  subst e
  unfold nameC at h
  omega
theorem okUpto_at (l : List UInt8) : ∀ k, okUpto l k = true → ∀ j, j < k → fitsB ((l.getD j 0).toNat : Int) (j : Int) = true
  | 0, _, j, hj => by omega
  | k + 1, h, j, hj => by
    rw [okUpto, Bool.and_eq_true] at h
    by_cases e : j = k
    · subst e; exact h.2
    · exact okUpto_at l k h.1 j (by omega)
theorem fits_name {b : UInt8} {j : Int} (h : fitsB (b.toNat : Int) j = true) : nameC b := by
  unfold fitsB at h
  simp only [Bool.or_eq_true, Bool.and_eq_true, decide_eq_true_eq] at h
  unfold nameC
  omega
theorem vn_bytes {s : ByteArray} (h : vn s = true) : s.data.toList ≠ [] ∧ ∀ b ∈ s.data.toList, nameC b := by
  unfold vn at h
  rw [Bool.and_eq_true, decide_eq_true_eq] at h
  have hl := Lib.size_eq s
  refine ⟨fun e => by rw [e, List.length_nil] at hl; omega, fun b hb => ?_⟩
  obtain ⟨j, hj, rfl⟩ := List.getElem_of_mem hb
  have := okUpto_at _ _ h.2 j (by omega)
  rw [List.getD_eq_getElem?_getD, List.getElem?_eq_getElem hj] at this
  exact fits_name this

theorem lit_list {x : Lt} (h : vn x.name = true) : (litT x).data.toList = (if x.neg then [126] else []) ++ x.name.data.toList := by
  unfold litT fmtB
  rw [if_pos h]
  cases x.neg <;> simp
theorem lit_back {x : Lt} (h : vn x.name = true) : cutB (litT x) = x.neg ∧ bare (litT x) = x.name := by
  have hl := lit_list h
  obtain ⟨hne, hb⟩ := vn_bytes h
  have hc : cutB (litT x) = x.neg := by
    rw [cutB_eq, hl]
    cases hn : x.neg
    · cases hx : x.name.data.toList with
      | nil => exact absurd hx hne
      | cons b r =>
        have hbb := (hb b (by rw [hx]; exact List.mem_cons_self)).ne (c := 126) (by decide)
        simp [hbb]
    · rfl
  refine ⟨hc, ?_⟩
  unfold bare
  rw [hc]
  apply bytes_eq
  have hsz := Lib.size_eq (litT x)
  cases hn : x.neg
  · simp [hl, hn]
  · rw [if_pos rfl, Lib.extract_data, hsz, hl, hn]
    simp
    exact List.take_of_length_le (by rw [Lib.size_eq]; exact Nat.le_refl _)
theorem litW_back {x : Lt} (h : vn x.name = true) : litW (litT x) = x ∧ litOk (litT x) = true := by
  obtain ⟨h1, h2⟩ := lit_back h
  unfold litW litOk parsedNeg parsedName
  rw [h2, h1, h]
  exact ⟨rfl, rfl⟩
theorem lit_plain {x : Lt} (h : vn x.name = true) : (litT x).data.toList ≠ [] ∧ ∀ b ∈ (litT x).data.toList, plainC b = true := by
  obtain ⟨hne, hb⟩ := vn_bytes h
  rw [lit_list h]
  refine ⟨fun e => hne (List.append_eq_nil_iff.1 e).2, fun b hm => ?_⟩
  rcases List.mem_append.1 hm with h1 | h1
  · split at h1
    · rw [List.mem_singleton.1 h1]; decide
    · simp at h1
  · exact (hb b h1).plain
theorem lit_comma {x : Lt} (h : vn x.name = true) : ∀ b ∈ (litT x).data.toList, b ≠ 44 := by
  obtain ⟨hne, hb⟩ := vn_bytes h
  rw [lit_list h]
  intro b hm
  rcases List.mem_append.1 hm with h1 | h1
  · split at h1
    · rw [List.mem_singleton.1 h1]; decide
    · simp at h1
  · exact (hb b h1).ne (by decide)

theorem trim_nil (s : ByteArray) : trimT s nilT = s := by
  have e : Lib.trimSuffix s.data.toList nilT.data.toList = s.data.toList := by
    unfold Lib.trimSuffix Lib.hasSuffix nilT
    simp
    exact List.take_of_length_le (by rw [Lib.size_eq]; exact Nat.le_refl _)
  unfold trimT
  rw [e, bk]
theorem trim_sign (s : ByteArray) (c : UInt8) : trimT (s ++ ⟨#[c]⟩) ⟨#[c]⟩ = s := by
  have e0 : (s ++ ⟨#[c]⟩ : ByteArray).data.toList = s.data.toList ++ [c] := by simp
  have e : Lib.trimSuffix (s ++ ⟨#[c]⟩ : ByteArray).data.toList (⟨#[c]⟩ : ByteArray).data.toList = s.data.toList := by
    rw [e0]
    unfold Lib.trimSuffix Lib.hasSuffix
    rw [if_pos (List.isSuffixOf_iff_suffix.2 ⟨s.data.toList, rfl⟩)]
    simp
  unfold trimT
  rw [e, bk]
theorem trim_no (s : ByteArray) (c : UInt8) (h : ∀ b ∈ s.data.toList, b ≠ c) : trimT s ⟨#[c]⟩ = s := by
  have e : Lib.trimSuffix s.data.toList (⟨#[c]⟩ : ByteArray).data.toList = s.data.toList := by
    unfold Lib.trimSuffix Lib.hasSuffix
    rw [if_neg]
    intro hs
    obtain ⟨t, ht⟩ := List.isSuffixOf_iff_suffix.1 hs
    exact h c (by rw [← ht]; simp) rfl
  unfold trimT
  rw [e, bk]

theorem dig_facts : ∀ n : Fin 10, atoiOk (digT n.val) = true ∧ atoiV (digT n.val) = (n.val : Int) ∧ (digT n.val).data.toList = [48 + UInt8.ofNat n.val] := by decide +kernel
theorem dig_plain : ∀ n : Fin 10, (digT n.val).data.toList ≠ [] ∧ (digT n.val).data.toList.all plainC = true := by decide +kernel

/-- The words of a line that joins them. -/
theorem words_join (s : ByteArray) (ws : List ByteArray) (e : s.data.toList = joinS (ws.map (·.data.toList))) (h : ∀ w ∈ ws, w.data.toList ≠ [] ∧ ∀ b ∈ w.data.toList, plainC b = true) : wordsOf s = ws := by
  unfold wordsOf
  rw [e, fieldsD_join _ (fun w hw => by
    obtain ⟨v, hv, rfl⟩ := List.mem_map.1 hw
    exact h v hv), List.map_map]
  conv => rhs; rw [← List.map_id ws]
  apply List.map_congr_left
  intro w _
  exact bk w

/-! Premises. -/
def fromT : ByteArray := ⟨#[102, 114, 111, 109]⟩
def premWB (p : Pm) (n : Nat) : List ByteArray := wordT p.kind :: litT p.lit :: ((if p.kind = 2 then [digT n] else []) ++ (if p.src.size = 0 then [] else [fromT, p.src]))
structure PmGood (p : Pm) : Prop where
  kind : p.kind = 1 ∨ p.kind = 2 ∨ p.kind = 3
  lit : vn p.lit.name = true
  rank : 0 ≤ p.rank ∧ p.rank ≤ 9
  none : p.kind ≠ 2 → p.rank = 0
  src : p.src.size = 0 ∨ vn p.src = true
theorem premT_words (p : Pm) (n : Nat) : (premT p n).data.toList = joinS ((premWB p n).map (·.data.toList)) := by
  unfold premT premT1 premT0 premWB
  by_cases h1 : p.kind = 2 <;> by_cases h2 : p.src.size = 0 <;> simp [h1, h2, joinS, fromT]
theorem word_plain (k : Int) : (wordT k).data.toList ≠ [] ∧ ∀ b ∈ (wordT k).data.toList, plainC b = true := by
  unfold wordT
  split
  · decide
  · split <;> decide
theorem src_plain {s : ByteArray} (h : vn s = true) : s.data.toList ≠ [] ∧ ∀ b ∈ s.data.toList, plainC b = true := ⟨(vn_bytes h).1, fun b hb => ((vn_bytes h).2 b hb).plain⟩
theorem dig_plain' {n : Nat} (h : n < 10) : (digT n).data.toList ≠ [] ∧ ∀ b ∈ (digT n).data.toList, plainC b = true := ⟨(dig_plain ⟨n, h⟩).1, fun b hb => List.all_eq_true.1 (dig_plain ⟨n, h⟩).2 b hb⟩
theorem prem_plain {p : Pm} (h : PmGood p) : ∀ w ∈ premWB p p.rank.toNat, w.data.toList ≠ [] ∧ ∀ b ∈ w.data.toList, plainC b = true := fun w hw => by
  unfold premWB at hw
  have hr := h.rank
  rcases List.mem_cons.1 hw with rfl | hw
  · exact word_plain _
  rcases List.mem_cons.1 hw with rfl | hw
  · exact lit_plain h.lit
  rcases List.mem_append.1 hw with hw | hw
  · split at hw
    · rw [List.mem_singleton.1 hw]; exact dig_plain' (by omega)
    · simp at hw
  · split at hw
    · simp at hw
    · rename_i h0
      rcases List.mem_cons.1 hw with rfl | hw
      · decide
      · rw [List.mem_singleton.1 hw]; exact src_plain (h.src.resolve_left h0)
theorem prem_words {p : Pm} (h : PmGood p) : wordsOf (premT p p.rank.toNat) = premWB p p.rank.toNat := words_join _ _ (premT_words p _) (prem_plain h)
theorem kind_back {k : Int} (h : k = 1 ∨ k = 2 ∨ k = 3) : kindT (wordT k) = k ∧ (k != 0) = true ∧ isStrict (wordT k) = false ∧ isRule (wordT k) = false ∧ isPromote (wordT k) = false := by
  rcases h with rfl | rfl | rfl <;> decide +kernel
theorem rank_nat {z : Int} (h : 0 ≤ z ∧ z ≤ 9) : ∃ n : Nat, n < 10 ∧ z = (n : Int) := ⟨z.toNat, by omega, by omega⟩
theorem dig_back {n : Nat} (h : n < 10) : atoiOk (digT n) = true ∧ atoiV (digT n) = (n : Int) := ⟨(dig_facts ⟨n, h⟩).1, (dig_facts ⟨n, h⟩).2.1⟩
theorem rankB_in {n : Nat} (h : n < 10) : rankB (n : Int) true = true := by
  unfold rankB
  rw [if_pos rfl, Bool.and_eq_true, decide_eq_true_eq, decide_eq_true_eq]
  omega
theorem rdPrem_back {p : Pm} (h : PmGood p) : rdPrem p.kind ⟨(premWB p p.rank.toNat).tail, false⟩ = (p, ⟨[], false⟩) := by
  obtain ⟨n, hn, hr⟩ := rank_nat h.rank
  obtain ⟨l1, l2⟩ := litW_back h.lit
  obtain ⟨d1, d2⟩ := dig_back hn
  have k0 := (kind_back h.kind).2.1
  have hb := rankB_in hn
  have hz := h.none
  have hs := h.src
  have hse : p.src.size = 0 → p.src = nilT := fun e => empty_of_size e
  obtain ⟨lit, kind, rank, src⟩ := p
  simp only at hr l1 l2 k0 hz hs hse ⊢
  subst hr
  have e1 : ((n : Int)).toNat = n := by omega
  by_cases h1 : kind = 2
  · subst h1
    by_cases h2 : src.size = 0
    · have e2 := hse h2
      subst e2
      simp [rdPrem, rdPrem3, rdPrem2, rdPrem1, rdLit, rdRank, rdName, rdWord, hdW, premWB, trim_nil, l1, l2, d1, d2, hb, e1, h2]
    · have e3 := hs.resolve_left h2
      simp [rdPrem, rdPrem3, rdPrem2, rdPrem1, rdLit, rdRank, rdName, rdWord, hdW, premWB, trim_nil, l1, l2, d1, d2, hb, e1, h2, e3]
  · have e4 := hz h1
    by_cases h2 : src.size = 0
    · have e2 := hse h2
      subst e2
      simp [rdPrem, rdPrem3, rdPrem2, rdPrem1, rdLit, rdRank, rdName, rdWord, hdW, premWB, trim_nil, l1, l2, e1, h1, h2, e4, k0]
    · have e3 := hs.resolve_left h2
      simp [rdPrem, rdPrem3, rdPrem2, rdPrem1, rdLit, rdRank, rdName, rdWord, hdW, premWB, trim_nil, l1, l2, e1, h1, h2, e3, e4, k0]

/-! Rules. -/
def strictT : ByteArray := ⟨#[115, 116, 114, 105, 99, 116]⟩
def ruleHT : ByteArray := ⟨#[114, 117, 108, 101]⟩
def promoteT : ByteArray := ⟨#[112, 114, 111, 109, 111, 116, 101]⟩
def ifT : ByteArray := ⟨#[105, 102]⟩
def arrowT (s : Bool) : ByteArray := if s then ⟨#[45, 62]⟩ else ⟨#[61, 62]⟩
def bodyWB : List Lt → List ByteArray
  | [] => []
  | [x] => [litT x]
  | x :: y :: r => (litT x ++ comT) :: bodyWB (y :: r)
def ruleH (r : Ru) (n : Nat) : List ByteArray := if r.strict then [strictT, r.name ++ colT] else [ruleHT, r.name, digT n ++ colT]
def ruleWB (r : Ru) (n : Nat) : List ByteArray := ruleH r n ++ (bodyWB r.body ++ [arrowT r.strict, litT r.head])
structure RuGood (r : Ru) : Prop where
  name : vn r.name = true
  rank : 0 ≤ r.rank ∧ r.rank ≤ 9
  none : r.strict = true → r.rank = 0
  head : vn r.head.name = true
  body : ∀ x ∈ r.body, vn x.name = true
  few : r.body.length ≤ 4
theorem bodyWB_len : ∀ xs : List Lt, (bodyWB xs).length = xs.length
  | [] => rfl
  | [x] => rfl
  | x :: y :: r => by rw [bodyWB, List.length_cons, bodyWB_len (y :: r)]; rfl
theorem join_two (x y : List UInt8) (r : List (List UInt8)) (sep : List UInt8) : Lib.join (x :: y :: r) sep = x ++ (sep ++ Lib.join (y :: r) sep) := by
  rw [Lib.join_cons, Lib.join_cons]
  simp [Lib.joinTail]
theorem bodyWB_join : ∀ (xs : List Lt) (v : ByteArray) (rest : List ByteArray), joinS ((bodyWB xs ++ v :: rest).map (·.data.toList)) = (bodyT xs).data.toList ++ joinS ((v :: rest).map (·.data.toList))
  | [], v, rest => by simp [bodyWB, bodyT]
  | [x], v, rest => by simp [bodyWB, bodyT, joinS, joinT, Lib.join_one]
  | x :: y :: r, v, rest => by
    have ih := bodyWB_join (y :: r) v rest
    have e : (bodyWB (x :: y :: r) ++ v :: rest).map (·.data.toList) = (litT x ++ comT).data.toList :: ((bodyWB (y :: r) ++ v :: rest).map (·.data.toList)) := by simp [bodyWB]
    have hc : ∃ a t, (bodyWB (y :: r) ++ v :: rest).map (·.data.toList) = a :: t := by
      cases hh : (bodyWB (y :: r) ++ v :: rest).map (·.data.toList) with
      | nil => simp at hh
      | cons a t => exact ⟨a, t, rfl⟩
    obtain ⟨a, t, ha⟩ := hc
    rw [e, ha, joinS, ← ha, ih]
    simp only [bodyT, List.length_cons, List.map_cons, joinT]
    rw [join_two]
    simp [comT]
theorem ruleT_words (r : Ru) (n : Nat) : (ruleT r n).data.toList = joinS ((ruleWB r n).map (·.data.toList)) := by
  have hb := bodyWB_join r.body (arrowT r.strict) [litT r.head]
  have hc : ∃ a t, (bodyWB r.body ++ [arrowT r.strict, litT r.head]).map (·.data.toList) = a :: t := by
    cases hh : (bodyWB r.body ++ [arrowT r.strict, litT r.head]).map (·.data.toList) with
    | nil => simp at hh
    | cons a t => exact ⟨a, t, rfl⟩
  obtain ⟨a, t, ha⟩ := hc
  unfold ruleWB ruleH ruleT
  cases hs : r.strict
  · rw [hs] at hb ha
    simp only [Bool.false_eq_true, if_false, List.map_append, List.map_cons, List.map_nil, List.cons_append, List.nil_append] at ha hb ⊢
    rw [ha] at hb ⊢
    rw [joinS, joinS, joinS, hb]
    simp [joinS, arrowT, ruleHT, colT]
  · rw [hs] at hb ha
    simp only [if_true, List.map_append, List.map_cons, List.map_nil, List.cons_append, List.nil_append] at ha hb ⊢
    rw [ha] at hb ⊢
    rw [joinS, joinS, hb]
    simp [joinS, arrowT, strictT, colT]
theorem app_plain {s t : ByteArray} (h : s.data.toList ≠ [] ∧ ∀ b ∈ s.data.toList, plainC b = true) (ht : ∀ b ∈ t.data.toList, plainC b = true) : (s ++ t).data.toList ≠ [] ∧ ∀ b ∈ (s ++ t).data.toList, plainC b = true := by
  have e : (s ++ t).data.toList = s.data.toList ++ t.data.toList := by simp
  rw [e]
  exact ⟨fun e2 => h.1 (List.append_eq_nil_iff.1 e2).1, fun b hb => (List.mem_append.1 hb).elim (h.2 b) (ht b)⟩
theorem bodyWB_plain : ∀ xs : List Lt, (∀ x ∈ xs, vn x.name = true) → ∀ w ∈ bodyWB xs, w.data.toList ≠ [] ∧ ∀ b ∈ w.data.toList, plainC b = true
  | [], _, w, hw => by simp [bodyWB] at hw
  | [x], h, w, hw => by
    rw [List.mem_singleton.1 hw]
    exact lit_plain (h x (List.mem_singleton.2 rfl))
  | x :: y :: r, h, w, hw => by
    rcases List.mem_cons.1 hw with rfl | hw
    · exact app_plain (lit_plain (h x List.mem_cons_self)) (by decide)
    · exact bodyWB_plain (y :: r) (fun z hz => h z (List.mem_cons_of_mem _ hz)) w hw
theorem arrow_plain (s : Bool) : (arrowT s).data.toList ≠ [] ∧ ∀ b ∈ (arrowT s).data.toList, plainC b = true := by cases s <;> decide
theorem rule_plain {r : Ru} (h : RuGood r) : ∀ w ∈ ruleWB r r.rank.toNat, w.data.toList ≠ [] ∧ ∀ b ∈ w.data.toList, plainC b = true := fun w hw => by
  have hr := h.rank
  unfold ruleWB ruleH at hw
  rcases List.mem_append.1 hw with hw | hw
  · split at hw
    · rcases List.mem_cons.1 hw with rfl | hw
      · decide
      · rw [List.mem_singleton.1 hw]; exact app_plain (src_plain h.name) (by decide)
    · rcases List.mem_cons.1 hw with rfl | hw
      · decide
      rcases List.mem_cons.1 hw with rfl | hw
      · exact src_plain h.name
      · rw [List.mem_singleton.1 hw]; exact app_plain (dig_plain' (by omega)) (by decide)
  · rcases List.mem_append.1 hw with hw | hw
    · exact bodyWB_plain _ h.body w hw
    · rcases List.mem_cons.1 hw with rfl | hw
      · exact arrow_plain _
      · rw [List.mem_singleton.1 hw]; exact lit_plain h.head
theorem rule_words {r : Ru} (h : RuGood r) : wordsOf (ruleT r r.rank.toNat) = ruleWB r r.rank.toNat := words_join _ _ (ruleT_words r _) (rule_plain h)
theorem body_back : ∀ xs : List Lt, (∀ x ∈ xs, vn x.name = true) → (bodyWB xs).map (fun x => litW (trimT x comT)) = xs ∧ (bodyWB xs).any (fun x => !litOk (trimT x comT)) = false
  | [], _ => ⟨rfl, rfl⟩
  | [x], h => by
    have hx := h x (List.mem_singleton.2 rfl)
    have ht : trimT (litT x) comT = litT x := trim_no _ _ (lit_comma hx)
    simp [bodyWB, ht, (litW_back hx).1, (litW_back hx).2]
  | x :: y :: r, h => by
    have hx := h x List.mem_cons_self
    have ih := body_back (y :: r) (fun z hz => h z (List.mem_cons_of_mem _ hz))
    have ht : trimT (litT x ++ comT) comT = litT x := trim_sign _ _
    refine ⟨?_, ?_⟩
    · rw [bodyWB, List.map_cons, ih.1, ht, (litW_back hx).1]
    · rw [bodyWB, List.any_cons, ih.2, ht, (litW_back hx).2]
      rfl
theorem rdRule_back {r : Ru} (h : RuGood r) : rdRule r.strict ⟨(ruleWB r r.rank.toNat).tail, false⟩ = (r, ⟨[], false⟩) := by
  obtain ⟨n, hn, hr⟩ := rank_nat h.rank
  obtain ⟨l1, l2⟩ := litW_back h.head
  obtain ⟨d1, d2⟩ := dig_back hn
  obtain ⟨b1, b2⟩ := body_back r.body h.body
  have hbl := bodyWB_len r.body
  have hb := rankB_in hn
  have hz := h.none
  have hnm := h.name
  obtain ⟨name, strict, rank, body, head⟩ := r
  simp only at hr l1 l2 b1 b2 hbl hz hnm ⊢
  subst hr
  have e1 : ((n : Int)).toNat = n := by omega
  have t1 : trimT (name ++ colT) colT = name := trim_sign _ _
  have t2 : trimT name colT = name := trim_no _ _ (fun b hb => ((vn_bytes hnm).2 b hb).ne (by decide))
  have t3 : trimT (digT n ++ colT) colT = digT n := trim_sign _ _
  have tk : (bodyWB body ++ [arrowT strict, litT head]).take ((bodyWB body ++ [arrowT strict, litT head]).length - 2) = bodyWB body := by
    rw [List.length_append]
    show List.take ((bodyWB body).length + 2 - 2) _ = _
    rw [Nat.add_sub_cancel, List.take_left]
  have dk : (bodyWB body ++ [arrowT strict, litT head]).drop ((bodyWB body ++ [arrowT strict, litT head]).length - 2) = [arrowT strict, litT head] := by
    rw [List.length_append]
    show List.drop ((bodyWB body).length + 2 - 2) _ = _
    rw [Nat.add_sub_cancel, List.drop_left]
  have key : ∀ bad, rdBody ((bodyWB body ++ [arrowT strict, litT head]).length - 2) ⟨bodyWB body ++ [arrowT strict, litT head], bad⟩ = (body, ⟨[arrowT strict, litT head], bad⟩) := fun bad => by
    unfold rdBody
    simp only [tk, dk, b1, b2, Bool.or_false]
  cases strict
  · have e2 : (rdRule1 false ⟨(ruleWB ⟨name, false, n, body, head⟩ n).tail, false⟩) = ((n : Int), ⟨bodyWB body ++ [arrowT false, litT head], false⟩) := by
      simp [rdRule1, rdRank, rdName, hdW, ruleWB, ruleH, t2, t3, hnm, d1, d2, hb]
    have e3 : (rdName ⟨(ruleWB ⟨name, false, n, body, head⟩ n).tail, false⟩ colT).1 = name := by
      simp [rdName, hdW, ruleWB, ruleH, t2]
    unfold rdRule rdRule2
    rw [e1, e2, e3]
    simp only [key]
    simp [rdLit, rdWord, hdW, trim_nil, l1, l2]
  · have e0 := hz rfl
    have en : n = 0 := by omega
    subst en
    have e2 : (rdRule1 true ⟨(ruleWB ⟨name, true, ((0 : Nat) : Int), body, head⟩ 0).tail, false⟩) = (0, ⟨bodyWB body ++ [arrowT true, litT head], false⟩) := by
      simp [rdRule1, rdName, hdW, ruleWB, ruleH, t1, hnm]
    have e3 : (rdName ⟨(ruleWB ⟨name, true, ((0 : Nat) : Int), body, head⟩ 0).tail, false⟩ colT).1 = name := by
      simp [rdName, hdW, ruleWB, ruleH, t1]
    unfold rdRule rdRule2
    rw [e1, e2, e3]
    simp only [key]
    simp [rdLit, rdWord, hdW, trim_nil, l1, l2]

/-! Promotions. -/
def promWB (p : Pr) (n : Nat) : List ByteArray := [promoteT, p.rule, digT n, ifT, litT p.lit]
structure PrGood (p : Pr) : Prop where
  rule : vn p.rule = true
  rank : 0 ≤ p.rank ∧ p.rank ≤ 9
  lit : vn p.lit.name = true
theorem promT_words (p : Pr) (n : Nat) : (promT p n).data.toList = joinS ((promWB p n).map (·.data.toList)) := by
  unfold promT promWB
  simp [joinS, promoteT, ifT]
theorem prom_plain {p : Pr} (h : PrGood p) : ∀ w ∈ promWB p p.rank.toNat, w.data.toList ≠ [] ∧ ∀ b ∈ w.data.toList, plainC b = true := fun w hw => by
  have hr := h.rank
  unfold promWB at hw
  rcases List.mem_cons.1 hw with rfl | hw
  · decide
  rcases List.mem_cons.1 hw with rfl | hw
  · exact src_plain h.rule
  rcases List.mem_cons.1 hw with rfl | hw
  · exact dig_plain' (by omega)
  rcases List.mem_cons.1 hw with rfl | hw
  · decide
  · rw [List.mem_singleton.1 hw]; exact lit_plain h.lit
theorem prom_words {p : Pr} (h : PrGood p) : wordsOf (promT p p.rank.toNat) = promWB p p.rank.toNat := words_join _ _ (promT_words p _) (prom_plain h)
theorem rdProm_back {p : Pr} (h : PrGood p) : rdProm ⟨(promWB p p.rank.toNat).tail, false⟩ = (p, ⟨[], false⟩) := by
  obtain ⟨n, hn, hr⟩ := rank_nat h.rank
  obtain ⟨l1, l2⟩ := litW_back h.lit
  obtain ⟨d1, d2⟩ := dig_back hn
  have hb := rankB_in hn
  have hnm := h.rule
  obtain ⟨rule, rank, lit⟩ := p
  simp only at hr l1 l2 hnm ⊢
  subst hr
  have e1 : ((n : Int)).toNat = n := by omega
  simp [rdProm, rdProm1, rdLit, rdRank, rdName, rdWord, hdW, promWB, trim_nil, l1, l2, d1, d2, hb, e1, hnm]
end Go.Proofs.YtfcoplplkbeljaaGreatDoor

namespace Go.Proofs.YtfcoplplkbeljaaGreatDoor
set_option linter.unusedVariables false
set_option linter.unusedSimpArgs false
open Go Go.RowKit

theorem join_no10 : ∀ ws : List (List UInt8), (∀ w ∈ ws, ∀ b ∈ w, plainC b = true) → ∀ b ∈ joinS ws, b ≠ 10
  | [], _, b, hb => by simp [joinS] at hb
  | [w], h, b, hb => fun e => by
    subst e
    have := h w (List.mem_singleton.2 rfl) 10 hb
    simp [plainC] at this
  | w :: v :: r, h, b, hb => fun e => by
    subst e
    rw [joinS] at hb
    rcases List.mem_append.1 hb with hb | hb
    · have := h w List.mem_cons_self 10 hb
      simp [plainC] at this
    · rcases List.mem_cons.1 hb with hb | hb
      · simp at hb
      · exact join_no10 (v :: r) (fun x hx => h x (List.mem_cons_of_mem _ hx)) 10 hb rfl

theorem index_at : ∀ (l r : List UInt8), (∀ b ∈ l, b ≠ 10) → Lib.indexByte (l ++ 10 :: r) 10 = (l.length : Int)
  | [], r, _ => rfl
  | b :: l, r, h => by
    have ih := index_at l r (fun x hx => h x (List.mem_cons_of_mem _ hx))
    have hb : (b == 10) = false := by simpa using h b List.mem_cons_self
    rw [List.cons_append, Lib.indexByte, hb, ih]
    have : (((l.length : Int)) == -1) = false := by simp
    rw [this]
    simp
/-- The first line of a text, and what stands behind it. -/
theorem cut_at {s line : ByteArray} {r : List UInt8} (h : s.data.toList = line.data.toList ++ 10 :: r) (hn : ∀ b ∈ line.data.toList, b ≠ 10) :
    ¬ s.size = 0 ∧ decide (0 ≤ ixN s) = true ∧ lineN s = line ∧ (restN s).data.toList = r := by
  have hi : ixN s = (line.data.toList.length : Int) := by
    unfold ixN
    rw [h]
    exact index_at _ _ hn
  have hsz := Lib.size_eq s
  rw [h, List.length_append, List.length_cons] at hsz
  have h0 : 0 ≤ ixN s := by omega
  have hn2 : (ixN s).toNat = line.data.toList.length := by omega
  refine ⟨by omega, decide_eq_true h0, ?_, ?_⟩
  · unfold lineN
    rw [if_pos h0, hn2]
    apply bytes_eq
    rw [Lib.extract_data, h]
    simp
  · unfold restN
    rw [if_pos h0, hn2, Lib.extract_data, h, hsz, show line.data.toList.length + 1 = (line.data.toList ++ [10]).length by simp, show line.data.toList ++ 10 :: r = (line.data.toList ++ [10]) ++ r by simp, List.drop_left, List.take_of_length_le]
    simp
    omega
theorem linesE_step {f n : Nat} {b b' : Bs} {s line : ByteArray} {r : List UInt8} (h : s.data.toList = line.data.toList ++ 10 :: r) (hn : ∀ c ∈ line.data.toList, c ≠ 10) (ha : addL b line = (b', true)) :
    linesE (f + 1) n b s = linesE f (n + 1) b' ⟨r.toArray⟩ := by
  obtain ⟨h1, h2, h3, h4⟩ := cut_at h hn
  rw [linesE_good h1 (by rw [h2, h3, ha]; rfl), h3, ha]
  congr 1
  exact bytes_eq h4

/-! The lines of a base. -/
def bytesOf {α : Type} (g : α → ByteArray) (xs : List α) : List UInt8 := xs.flatMap fun x => (g x).data.toList
theorem linesB_cons (a : ByteArray) (ls : List ByteArray) : ∀ k, linesB (a :: ls) (k + 1) = a.data.toList ++ linesB ls k
  | 0 => by simp [linesB]
  | k + 1 => by
    have ih := linesB_cons a ls k
    rw [linesB, ih, linesB, List.append_assoc]
    rfl
theorem linesB_all : ∀ ls : List ByteArray, linesB ls ls.length = ls.flatMap (·.data.toList)
  | [] => rfl
  | a :: ls => by rw [List.length_cons, linesB_cons, linesB_all ls, List.flatMap_cons]
theorem linesB_of {α : Type} (g : α → ByteArray) (xs : List α) : linesB (xs.map g) xs.length = bytesOf g xs := by
  have := linesB_all (xs.map g)
  rw [List.length_map] at this
  rw [this, bytesOf, List.flatMap_map]
def textB5 (b : Bs) : List UInt8 := bytesOf premLn b.prems ++ bytesOf ruleLn b.rules ++ bytesOf promLn b.proms
theorem textL_list (b : Bs) : (textL b).data.toList = textB5 b := by
  unfold textL textB5
  rw [linesB_of, linesB_of, linesB_of]
theorem bytesOf_cons {α : Type} (g : α → ByteArray) (x : α) (xs : List α) : bytesOf g (x :: xs) = (g x).data.toList ++ bytesOf g xs := by rw [bytesOf, List.flatMap_cons]; rfl
theorem bytesOf_snoc {α : Type} (g : α → ByteArray) (x : α) (xs : List α) : bytesOf g (xs ++ [x]) = bytesOf g xs ++ (g x).data.toList := by simp [bytesOf]
theorem ln_list (s : ByteArray) : (s ++ nlT).data.toList = s.data.toList ++ [10] := by simp [nlT]

structure BsGood (b : Bs) : Prop where
  prems : ∀ p ∈ b.prems, PmGood p
  rules : ∀ r ∈ b.rules, RuGood r
  proms : ∀ p ∈ b.proms, PrGood p

theorem same_self (a : ByteArray) : sameB a a = true := by unfold sameB; exact beq_self_eq_true _
theorem same_eq {a b : ByteArray} (h : sameB a b = true) : a = b := by
  unfold sameB at h
  rw [beq_iff_eq, Lib.toList_data, Lib.toList_data] at h
  exact bytes_eq h
theorem add_prem {p : Pm} (h : PmGood p) (b : Bs) (h0 : b.rules = []) (h1 : b.proms = []) : addL b (premT p p.rank.toNat) = (⟨b.prems ++ [p], b.rules, b.proms⟩, true) := by
  obtain ⟨k1, k2, k3, k4, k5⟩ := kind_back h.kind
  have hw := prem_words h
  have hr := rdPrem_back h
  unfold addL addL2
  rw [hw]
  have hh : hdW (premWB p p.rank.toNat) = wordT p.kind := rfl
  rw [hh, k1, k3, k4, k5, hr]
  simp [addPm, same_self, h0, h1]
theorem add_rule {r : Ru} (h : RuGood r) (b : Bs) (h1 : b.proms = []) : addL b (ruleT r r.rank.toNat) = (⟨b.prems, b.rules ++ [r], b.proms⟩, true) := by
  have hw := rule_words h
  have hr := rdRule_back h
  unfold addL addL2
  rw [hw]
  have hh : hdW (ruleWB r r.rank.toNat) = if r.strict then strictT else ruleHT := by unfold ruleWB ruleH; cases r.strict <;> rfl
  have e1 : isStrict (if r.strict then strictT else ruleHT) = r.strict := by cases r.strict <;> decide +kernel
  have e2 : isRule (if r.strict then strictT else ruleHT) = !r.strict := by cases r.strict <;> decide +kernel
  rw [hh, e1, e2, hr]
  have e3 : (r.strict || !r.strict) = true := by cases r.strict <;> rfl
  rw [e3, if_pos rfl]
  simp [addRu, same_self, h1]
theorem add_prom {p : Pr} (h : PrGood p) (b : Bs) : addL b (promT p p.rank.toNat) = (⟨b.prems, b.rules, b.proms ++ [p]⟩, true) := by
  have hw := prom_words h
  have hr := rdProm_back h
  unfold addL addL2
  rw [hw]
  have hh : hdW (promWB p p.rank.toNat) = promoteT := rfl
  have e1 : isStrict promoteT = false := by decide +kernel
  have e2 : isRule promoteT = false := by decide +kernel
  have e3 : isPromote promoteT = true := by decide +kernel
  rw [hh, e1, e2, e3, hr]
  simp [addPr, same_self]

theorem prem_no10 {p : Pm} (h : PmGood p) : ∀ b ∈ (premT p p.rank.toNat).data.toList, b ≠ 10 := by
  have hw := prem_words h
  rw [premT_words]
  refine join_no10 _ fun w hw2 => ?_
  obtain ⟨v, hv, rfl⟩ := List.mem_map.1 hw2
  exact (prem_plain h v hv).2
theorem rule_no10 {r : Ru} (h : RuGood r) : ∀ b ∈ (ruleT r r.rank.toNat).data.toList, b ≠ 10 := by
  rw [ruleT_words]
  refine join_no10 _ fun w hw2 => ?_
  obtain ⟨v, hv, rfl⟩ := List.mem_map.1 hw2
  exact (rule_plain h v hv).2
theorem prom_no10 {p : Pr} (h : PrGood p) : ∀ b ∈ (promT p p.rank.toNat).data.toList, b ≠ 10 := by
  rw [promT_words]
  refine join_no10 _ fun w hw2 => ?_
  obtain ⟨v, hv, rfl⟩ := List.mem_map.1 hw2
  exact (prom_plain h v hv).2

theorem lines_prems (rest : List UInt8) : ∀ (ps qs : List Pm) (f n : Nat), (∀ p ∈ ps, PmGood p) → linesE (f + ps.length) n ⟨qs, [], []⟩ ⟨(bytesOf premLn ps ++ rest).toArray⟩ = linesE f (n + ps.length) ⟨qs ++ ps, [], []⟩ ⟨rest.toArray⟩
  | [], qs, f, n, _ => by simp [bytesOf]
  | p :: ps, qs, f, n, h => by
    have hp := h p List.mem_cons_self
    have ih := lines_prems rest ps (qs ++ [p]) f (n + 1) (fun x hx => h x (List.mem_cons_of_mem _ hx))
    have e : (⟨(bytesOf premLn (p :: ps) ++ rest).toArray⟩ : ByteArray).data.toList = (premT p p.rank.toNat).data.toList ++ 10 :: (bytesOf premLn ps ++ rest) := by
      rw [bytesOf_cons, premLn, ln_list]
      simp
    rw [List.length_cons, show f + (ps.length + 1) = (f + ps.length) + 1 by omega, linesE_step e (prem_no10 hp) (add_prem hp _ rfl rfl), ih]
    simp
    congr 1
    omega
theorem lines_rules (rest : List UInt8) (ps : List Pm) : ∀ (rs qs : List Ru) (f n : Nat), (∀ r ∈ rs, RuGood r) → linesE (f + rs.length) n ⟨ps, qs, []⟩ ⟨(bytesOf ruleLn rs ++ rest).toArray⟩ = linesE f (n + rs.length) ⟨ps, qs ++ rs, []⟩ ⟨rest.toArray⟩
  | [], qs, f, n, _ => by simp [bytesOf]
  | p :: rs, qs, f, n, h => by
    have hp := h p List.mem_cons_self
    have ih := lines_rules rest ps rs (qs ++ [p]) f (n + 1) (fun x hx => h x (List.mem_cons_of_mem _ hx))
    have e : (⟨(bytesOf ruleLn (p :: rs) ++ rest).toArray⟩ : ByteArray).data.toList = (ruleT p p.rank.toNat).data.toList ++ 10 :: (bytesOf ruleLn rs ++ rest) := by
      rw [bytesOf_cons, ruleLn, ln_list]
      simp
    rw [List.length_cons, show f + (rs.length + 1) = (f + rs.length) + 1 by omega, linesE_step e (rule_no10 hp) (add_rule hp _ rfl), ih]
    simp
    congr 1
    omega
theorem lines_proms (rest : List UInt8) (ps : List Pm) (rs : List Ru) : ∀ (ms qs : List Pr) (f n : Nat), (∀ p ∈ ms, PrGood p) → linesE (f + ms.length) n ⟨ps, rs, qs⟩ ⟨(bytesOf promLn ms ++ rest).toArray⟩ = linesE f (n + ms.length) ⟨ps, rs, qs ++ ms⟩ ⟨rest.toArray⟩
  | [], qs, f, n, _ => by simp [bytesOf]
  | p :: ms, qs, f, n, h => by
    have hp := h p List.mem_cons_self
    have ih := lines_proms rest ps rs ms (qs ++ [p]) f (n + 1) (fun x hx => h x (List.mem_cons_of_mem _ hx))
    have e : (⟨(bytesOf promLn (p :: ms) ++ rest).toArray⟩ : ByteArray).data.toList = (promT p p.rank.toNat).data.toList ++ 10 :: (bytesOf promLn ms ++ rest) := by
      rw [bytesOf_cons, promLn, ln_list]
      simp
    rw [List.length_cons, show f + (ms.length + 1) = (f + ms.length) + 1 by omega, linesE_step e (prom_no10 hp) (add_prom hp _), ih]
    simp
    congr 1
    omega
theorem bytesOf_len {α : Type} (g : α → ByteArray) (h : ∀ x, 1 ≤ (g x).data.toList.length) : ∀ xs : List α, xs.length ≤ (bytesOf g xs).length
  | [] => Nat.le_refl _
  | x :: xs => by
    have := bytesOf_len g h xs
    have := h x
    rw [bytesOf_cons, List.length_append, List.length_cons]
    omega
theorem nl_pos (s : ByteArray) : 1 ≤ (s ++ nlT).data.toList.length := by rw [ln_list]; simp

/-- Parse's lines of a base's text. -/
theorem lines_text {b : Bs} (h : BsGood b) : linesE ((textL b).size + 1) 1 ⟨[], [], []⟩ (textL b) = (b, 0) := by
  have hl := textL_list b
  have hs := Lib.size_eq (textL b)
  rw [hl] at hs
  have h1 := bytesOf_len premLn (fun p => nl_pos _) b.prems
  have h2 := bytesOf_len ruleLn (fun p => nl_pos _) b.rules
  have h3 := bytesOf_len promLn (fun p => nl_pos _) b.proms
  have e : textL b = ⟨(bytesOf premLn b.prems ++ (bytesOf ruleLn b.rules ++ (bytesOf promLn b.proms ++ []))).toArray⟩ := by
    apply bytes_eq
    rw [hl, textB5]
    simp
  have hlen : (textB5 b).length = (bytesOf premLn b.prems).length + (bytesOf ruleLn b.rules).length + (bytesOf promLn b.proms).length := by
    unfold textB5
    rw [List.length_append, List.length_append]
  obtain ⟨k, hk⟩ : ∃ k, (textL b).size + 1 = (((k + 1) + b.proms.length) + b.rules.length) + b.prems.length := ⟨(textL b).size - b.proms.length - b.rules.length - b.prems.length, by omega⟩
  rw [hk, e, lines_prems _ _ _ _ _ h.prems, List.nil_append, lines_rules _ _ _ _ _ _ h.rules, List.nil_append, lines_proms _ _ _ _ _ _ _ h.proms, List.nil_append, linesE_stop rfl]

theorem rank_none {n : Int} {g : Bool} (h : rankB n g = true) (hg : g = false) : n = 0 := by
  subst hg
  unfold rankB at h
  rw [if_neg (by decide), decide_eq_true_eq] at h
  exact h
theorem premE_good {b : Bs} {p : Pm} {i : Nat} (h : premE b p i = 0) : PmGood p := by
  have hf := premE_fit h
  unfold premE at h
  rw [if_neg (fun k => k hf.1)] at h
  cases h2 : premB p
  · rw [h2, if_pos rfl] at h; cases h
  · unfold premB at h2
    rw [Bool.and_eq_true, Bool.and_eq_true] at h2
    obtain ⟨⟨a1, a2⟩, a3⟩ := h2
    refine ⟨hf.1, a1, hf.2.1, fun hk => rank_none a2 (by simpa using hk), ?_⟩
    unfold srcB at a3
    rw [Bool.or_eq_true, decide_eq_true_eq] at a3
    exact a3
theorem ruleE_good {b : Bs} {r : Ru} {i : Nat} (h : ruleE b r i = 0) : RuGood r := by
  have hf := ruleE_fit h
  unfold ruleE at h
  rw [if_neg (by have := hf.2.2.2.2; omega)] at h
  cases h2 : ruleB r
  · rw [h2, if_pos rfl] at h; cases h
  · unfold ruleB at h2
    rw [Bool.and_eq_true, Bool.and_eq_true, Bool.and_eq_true] at h2
    obtain ⟨a1, a2, a3, a4⟩ := h2
    refine ⟨a1, hf.1, fun hs => rank_none a2 (by rw [hs]; rfl), a3, fun x hx => ?_, hf.2.2.2.2⟩
    have h5 : r.body.any badL = false := by simpa using a4
    rw [List.any_eq_false] at h5
    have h6 := h5 x hx
    unfold badL at h6
    simpa using h6
theorem promE_good {b : Bs} {p : Pr} (hb : ∀ r ∈ b.rules, RuGood r) (hb' : ∀ r ∈ b.rules, RuFit r) (h : promE b p = 0) : PrGood p := by
  have hf := promE_fit hb' h
  unfold promE at h
  cases h1 : (rankB p.rank true && vn p.lit.name)
  · rw [h1, if_pos rfl] at h; cases h
  · rw [h1, if_neg (by decide)] at h
    by_cases h2 : posI (hasName p.rule) b.rules < 0
    · rw [if_pos h2] at h; cases h
    · obtain ⟨r, hr, hn⟩ := posI_hit h2
      rw [Bool.and_eq_true] at h1
      have h3 : r.name.toList = p.rule.toList := by simpa [hasName] using hn
      have h4 : r.name = p.rule := by
        rw [Lib.toList_data, Lib.toList_data] at h3
        exact bytes_eq h3
      exact ⟨by rw [← h4]; exact (hb r hr).name, hf.1, h1.2⟩
/-- A base without an error has good parts. -/
theorem baseE_good {b : Bs} (h : baseE b = 0) : BsGood b := by
  have hf := baseE_fit h
  unfold baseE at h
  by_cases hbig : 16 < b.prems.length ∨ 24 < b.rules.length ∨ 8 < b.proms.length
  · rw [if_pos hbig] at h; cases h
  · rw [if_neg hbig] at h
    by_cases h1 : errUp (premF b) b.prems.length = 0
    · rw [if_neg (fun k => k h1)] at h
      by_cases h2 : errUp (ruleF b) b.rules.length = 0
      · rw [if_neg (fun k => k h2)] at h
        have f2 : ∀ r ∈ b.rules, RuGood r := fun r hr => by
          obtain ⟨k, hk, rfl⟩ := List.getElem_of_mem hr
          have := errUp_zero _ h2 k hk
          unfold ruleF at this
          rw [dif_pos hk] at this
          exact ruleE_good this
        refine ⟨fun p hp => ?_, f2, fun p hp => ?_⟩
        · obtain ⟨k, hk, rfl⟩ := List.getElem_of_mem hp
          have := errUp_zero _ h1 k hk
          unfold premF at this
          rw [dif_pos hk] at this
          exact premE_good this
        · obtain ⟨k, hk, rfl⟩ := List.getElem_of_mem hp
          have := errUp_zero _ h k hk
          unfold promF at this
          rw [dif_pos hk] at this
          exact promE_good f2 hf.2.1 this
      · rw [if_pos h2] at h
        exact absurd h h2
    · rw [if_pos h1] at h
      exact absurd h h1

/-- Parse of the text of a base without an error. -/
theorem parse_text5 {b : Bs} (h : baseE b = 0) (hs : (textL b).size ≤ 4096) : parse5 (textL b) = (b, 0, 0) := by
  unfold parse5
  rw [if_neg (by omega), lines_text (baseE_good h)]
  unfold parse5a
  rw [if_neg (by simp), if_neg (by simp [h])]

/-! What was read is written as it stood. -/
theorem text_addL {b : Bs} {line : ByteArray} (h : (addL b line).2 = true) : textB5 (addL b line).1 = textB5 b ++ line.data.toList ++ [10] := by
  unfold addL addL2 at *
  split at h
  · rename_i h1
    rw [if_pos h1]
    simp only [addRu, Bool.and_eq_true, decide_eq_true_eq, List.length_eq_zero_iff] at h ⊢
    have e := same_eq h.1.2
    simp only [textB5, bytesOf_snoc, h.2, ruleLn, ln_list, ← e]
    simp [bytesOf]
  · rename_i h1
    rw [if_neg h1]
    split at h
    · rename_i h2
      rw [if_pos h2]
      simp only [addPr, Bool.and_eq_true] at h ⊢
      have e := same_eq h.2
      simp only [textB5, bytesOf_snoc, promLn, ln_list, ← e]
      simp
    · rename_i h2
      rw [if_neg h2]
      simp only [addPm, Bool.and_eq_true, decide_eq_true_eq] at h ⊢
      have e := same_eq h.1.2
      have e1 : b.rules = [] := List.length_eq_zero_iff.1 (by omega)
      have e2 : b.proms = [] := List.length_eq_zero_iff.1 (by omega)
      simp only [textB5, bytesOf_snoc, premLn, ln_list, ← e, e1, e2]
      simp [bytesOf]
theorem cut_back (s : ByteArray) (h : 0 ≤ ixN s) : s.data.toList = (lineN s).data.toList ++ 10 :: (restN s).data.toList := by
  rcases ixN_cases s with h1 | ⟨k, h1, hk⟩
  · omega
  · have he : Lib.indexByte s.data.toList 10 = (k : Int) := h1
    have h2 := (Lib.indexByte_some he).1
    have h3 : k < s.data.toList.length := (List.getElem?_eq_some_iff.1 h2).1
    have h4 : s.data.toList[k] = 10 := (List.getElem?_eq_some_iff.1 h2).2
    have hs := Lib.size_eq s
    unfold lineN restN
    rw [if_pos h, if_pos h, h1, Lib.extract_data, Lib.extract_data]
    have e1 : ((k : Int)).toNat = k := by omega
    rw [e1, List.drop_zero, Nat.sub_zero, List.take_of_length_le (l := List.drop (k + 1) s.data.toList) (by rw [List.length_drop]; omega)]
    conv => lhs; rw [← List.take_append_drop k s.data.toList, List.drop_eq_getElem_cons h3, h4]
theorem lines_back : ∀ (f n : Nat) (b d : Bs) (s : ByteArray), 0 < n → linesE f n b s = (d, 0) → textB5 d = textB5 b ++ s.data.toList
  | 0, n, b, d, s, hn, h => by
    rw [linesE] at h
    injection h with h1 h2
    omega
  | f + 1, n, b, d, s, hn, h => by
    rw [linesE] at h
    split at h
    · rename_i h0
      injection h with h1 h2
      subst h1
      have := Lib.size_eq s
      have e : s.data.toList = [] := List.length_eq_zero_iff.1 (by omega)
      rw [e, List.append_nil]
    · split at h
      · rename_i h0 h1
        rw [Bool.and_eq_true, decide_eq_true_eq] at h1
        have ih := lines_back f (n + 1) _ d _ (by omega) h
        rw [ih, text_addL h1.2, cut_back s h1.1]
        simp
      · injection h with h1 h2
        omega
/-- The text of what Parse returns. -/
theorem text_parse5 {s : ByteArray} (h : (parse5 s).2.2 = 0) : fmtE5 (parse5 s).1 = 0 ∧ fmtT5 (parse5 s).1 = s ∧ baseE (parse5 s).1 = 0 := by
  unfold parse5 at h ⊢
  by_cases hs : 4096 < s.size
  · rw [if_pos hs] at h
    cases h
  · rw [if_neg hs] at h ⊢
    generalize hx : linesE (s.size + 1) 1 ⟨[], [], []⟩ s = x at *
    obtain ⟨d, n⟩ := x
    unfold parse5a at h ⊢
    by_cases hn : n ≠ 0
    · simp only [if_pos hn] at h
      cases h
    · simp only [if_neg hn] at h ⊢
      have hn0 : n = 0 := by omega
      subst hn0
      by_cases hb : baseE d ≠ 0
      · simp only [if_pos hb] at h
        exact absurd h hb
      · simp only [if_neg hb] at h ⊢
        have hb0 : baseE d = 0 := Classical.byContradiction hb
        have ht := lines_back _ _ _ _ _ (by omega) hx
        have e : textL d = s := by
          apply bytes_eq
          rw [textL_list, ht]
          simp [textB5, bytesOf]
        have e0 : fmtE5 d = 0 := by
          unfold fmtE5
          rw [if_pos hb0, e, if_neg hs]
        exact ⟨e0, by unfold fmtT5; rw [if_pos e0, e], hb0⟩

/-! How many line feeds. -/
theorem count_no10 (l : List UInt8) (h : ∀ b ∈ l, b ≠ 10) : l.count 10 = 0 := List.count_eq_zero.2 fun hm => h 10 hm rfl
theorem count_lines {α : Type} (g : α → ByteArray) : ∀ xs : List α, (∀ x ∈ xs, ∀ b ∈ (g x).data.toList, b ≠ 10) → (bytesOf (fun x => g x ++ nlT) xs).count 10 = xs.length
  | [], _ => rfl
  | x :: xs, h => by
    have ih := count_lines g xs (fun y hy => h y (List.mem_cons_of_mem _ hy))
    rw [bytesOf_cons, List.count_append, ih, ln_list, List.count_append, count_no10 _ (h x List.mem_cons_self)]
    simp
    omega
theorem count_text {b : Bs} (h : BsGood b) : Lib.countByte (textL b).data.toList 10 = b.prems.length + b.rules.length + b.proms.length := by
  unfold Lib.countByte
  rw [textL_list, textB5, List.count_append, List.count_append]
  have h1 : (bytesOf premLn b.prems).count 10 = b.prems.length := count_lines (fun p => premT p p.rank.toNat) b.prems fun p hp => prem_no10 (h.prems p hp)
  have h2 : (bytesOf ruleLn b.rules).count 10 = b.rules.length := count_lines (fun p => ruleT p p.rank.toNat) b.rules fun p hp => rule_no10 (h.rules p hp)
  have h3 : (bytesOf promLn b.proms).count 10 = b.proms.length := count_lines (fun p => promT p p.rank.toNat) b.proms fun p hp => prom_no10 (h.proms p hp)
  rw [h1, h2, h3]
end Go.Proofs.YtfcoplplkbeljaaGreatDoor

namespace Go.Proofs.YtfcoplplkbeljaaGreatDoor
set_option linter.unusedVariables false
set_option linter.unusedSimpArgs false
open Go Go.RowKit Go.Sort

theorem vn_letters : ∀ m : Fin 26, vn (letter m.val) = true ∧ vn (ruleNm m.val) = true := by decide +kernel
theorem ruleNm_inj : ∀ i j : Fin 26, (ruleNm i.val).toList = (ruleNm j.val).toList → i.val = j.val := by decide +kernel
def annT : ByteArray := ⟨#[97, 110, 110]⟩
def bobT : ByteArray := ⟨#[98, 111, 98]⟩
theorem vn_srcs : vn annT = true ∧ vn bobT = true := by decide +kernel
theorem LetterN.vn {n : Nat} {x : Lt} (h : LetterN n x) (hn : n ≤ 26) : vn x.name = true := by
  obtain ⟨m, h1, h2⟩ := h
  rw [h2]
  exact (vn_letters ⟨m, by omega⟩).1

structure GenPm (n : Nat) (p : Pm) : Prop where
  lit : LetterN n p.lit
  kind : p.kind = 1 ∨ p.kind = 2 ∨ p.kind = 3
  rank : 0 ≤ p.rank ∧ p.rank ≤ 9
  none : p.kind ≠ 2 → p.rank = 0
  src : p.src = ⟨#[]⟩ ∨ p.src = annT ∨ p.src = bobT
structure GenRu (n i : Nat) (r : Ru) : Prop where
  name : r.name = ruleNm i
  rank : 0 ≤ r.rank ∧ r.rank ≤ 9
  none : r.strict = true → r.rank = 0
  body : Letters n r.body
  up : r.body.Pairwise fun a b => ltOf cmpI a b = true
  few : r.body.length ≤ 2
  head : LetterN n r.head ∨ ∃ j, j < 26 ∧ r.head.name = ruleNm j
structure GenPr (n : Nat) (rs : List Ru) (p : Pr) : Prop where
  rule : ∃ (i : Nat) (h : i < rs.length), p.rule = rs[i].name ∧ rs[i].strict = false
  rank : 0 ≤ p.rank ∧ p.rank ≤ 9
  lit : LetterN n p.lit
structure GenBs (n mp mr : Nat) (b : Bs) : Prop where
  prems : ∀ p ∈ b.prems, GenPm n p
  once : b.prems.Pairwise fun p q => p.lit ≠ q.lit
  rules : ∀ i (h : i < b.rules.length), GenRu n i b.rules[i]
  proms : ∀ p ∈ b.proms, GenPr n b.rules p
  np : b.prems.length ≤ mp
  nr : b.rules.length ≤ mr
  nq : b.proms.length ≤ 2

theorem errUp_none {f : Nat → Int} : ∀ n, (∀ k, k < n → f k = 0) → errUp f n = 0
  | 0, _ => rfl
  | n + 1, h => errUp_next (errUp_none n fun k hk => h k (by omega)) (h n (by omega))
theorem hasLit_is {x : Lt} {p : Pm} (h : hasLit x p = true) : p.lit = x := by
  unfold hasLit at h
  rw [Bool.and_eq_true, beq_iff_eq, beq_iff_eq, Lib.toList_data, Lib.toList_data] at h
  obtain ⟨⟨g, s⟩, k, r, c⟩ := p
  obtain ⟨g', s'⟩ := x
  obtain ⟨h1, h2⟩ := h
  have h3 := bytes_eq h2
  simp only at h1 h3 ⊢
  rw [h1, h3]
theorem hasLit_self (p : Pm) : hasLit p.lit p = true := by unfold hasLit; simp
theorem hasName_self (r : Ru) : hasName r.name r = true := by unfold hasName; simp
theorem hasName_eq {s : ByteArray} {r : Ru} (h : hasName s r = true) : r.name = s := by
  unfold hasName at h
  rw [beq_iff_eq, Lib.toList_data, Lib.toList_data] at h
  exact bytes_eq h
theorem not_before {α : Type} {p : α → Bool} {xs : List α} {i : Nat} (hi : i < xs.length) (hp : p xs[i] = true) (hn : ∀ j (hj : j < i), p (xs[j]'(by omega)) = false) : ¬ posI p xs < (i : Int) := by
  rw [posI_at hi hp hn]
  omega

variable {n mp mr : Nat} {b : Bs}
theorem GenBs.names (h : GenBs n mp mr b) (hr : mr ≤ 26) {i j : Nat} (hi : i < b.rules.length) (hj : j < b.rules.length) (e : b.rules[i].name = b.rules[j].name) : i = j := by
  rw [(h.rules i hi).name, (h.rules j hj).name] at e
  have := h.nr
  exact ruleNm_inj ⟨i, by omega⟩ ⟨j, by omega⟩ (by rw [e])
theorem GenBs.rule_at (h : GenBs n mp mr b) (hr : mr ≤ 26) {i : Nat} (hi : i < b.rules.length) : posI (hasName b.rules[i].name) b.rules = (i : Int) :=
  posI_at hi (hasName_self _) fun j hj => by
    cases hh : hasName b.rules[i].name (b.rules[j]'(by omega))
    · rfl
    · have := h.names hr (by omega) hi (hasName_eq hh)
      omega
theorem GenPm.src_vn {p : Pm} (h : GenPm n p) : p.src.size = 0 ∨ vn p.src = true := by
  rcases h.src with e | e | e
  · left; rw [e]; rfl
  · right; rw [e]; exact vn_srcs.1
  · right; rw [e]; exact vn_srcs.2
theorem rankB_of {z : Int} {g : Bool} (h : 0 ≤ z ∧ z ≤ 9) (h0 : g = false → z = 0) : rankB z g = true := by
  unfold rankB
  cases g
  · rw [if_neg (by decide)]; exact decide_eq_true (h0 rfl)
  · rw [if_pos rfl, Bool.and_eq_true, decide_eq_true_eq, decide_eq_true_eq]; exact h
/-- Such a base is without error. -/
theorem GenBs.valid (h : GenBs n mp mr b) (hn : n ≤ 26) (hp : mp ≤ 16) (hr : mr ≤ 24) : baseE b = 0 := by
  have n1 := h.np
  have n2 := h.nr
  have n3 := h.nq
  unfold baseE
  have e1 : errUp (premF b) b.prems.length = 0 := errUp_none _ fun k hk => by
    have g := h.prems _ (List.getElem_mem hk)
    unfold premF
    rw [dif_pos hk]
    unfold premE
    rw [if_neg (fun q => q g.kind)]
    have hb : premB b.prems[k] = true := by
      unfold premB
      rw [g.lit.vn hn, rankB_of g.rank (fun hf => g.none (by simpa using hf)), Bool.true_and, Bool.true_and]
      unfold srcB
      rw [Bool.or_eq_true, decide_eq_true_eq]
      exact g.src_vn
    rw [hb, if_neg (by decide), if_neg]
    exact not_before hk (hasLit_self _) fun j hj => by
      cases hh : hasLit b.prems[k].lit (b.prems[j]'(by omega))
      · rfl
      · exact absurd (hasLit_is hh) (List.pairwise_iff_getElem.1 h.once j k (by omega) hk hj)
  have e2 : errUp (ruleF b) b.rules.length = 0 := errUp_none _ fun k hk => by
    have g := h.rules k hk
    unfold ruleF
    rw [dif_pos hk]
    unfold ruleE
    have hb : ruleB b.rules[k] = true := by
      unfold ruleB
      have hv : vn b.rules[k].name = true := by rw [g.name]; exact (vn_letters ⟨k, by omega⟩).2
      have hh : vn b.rules[k].head.name = true := by
        rcases g.head with q | ⟨j, hj, q⟩
        · exact q.vn hn
        · rw [q]; exact (vn_letters ⟨j, hj⟩).2
      have hy : b.rules[k].body.any badL = false := List.any_eq_false.2 fun x hx => by
        unfold badL
        rw [(g.body x hx).vn hn]
        decide
      rw [hv, hh, hy, rankB_of g.rank (fun hf => g.none (by simpa using hf))]
      rfl
    have hs : decide (b.rules[k].body = nrm b.rules[k].body) = true := decide_eq_true ((nrm_self _).2 g.up)
    rw [if_neg (by have := g.few; omega), hb, if_neg (by decide), hs, if_neg (by decide), if_neg]
    exact not_before hk (hasName_self _) fun j hj => by
      cases hh : hasName b.rules[k].name (b.rules[j]'(by omega))
      · rfl
      · have := h.names (by omega) (by omega) hk (hasName_eq hh)
        omega
  have e3 : errUp (promF b) b.proms.length = 0 := errUp_none _ fun k hk => by
    have g := h.proms _ (List.getElem_mem hk)
    obtain ⟨i, hi, q1, q2⟩ := g.rule
    have hpos := h.rule_at (by omega) hi
    unfold promF
    rw [dif_pos hk]
    unfold promE
    rw [q1, hpos, rankB_of g.rank (fun hf => by cases hf), g.lit.vn hn, if_neg (by decide), if_neg (by omega), if_neg]
    unfold strictAt
    rw [show ((i : Int)).toNat = i by omega, List.getElem?_eq_getElem hi]
    simp [q2]
  rw [if_neg (by omega), if_neg (fun q => q e1), if_neg (fun q => q e2), e3]

/-! How long its text is. -/
theorem bytesOf_le {α : Type} (g : α → ByteArray) (m : Nat) : ∀ xs : List α, (∀ x ∈ xs, (g x).size ≤ m) → (bytesOf g xs).length ≤ xs.length * m
  | [], _ => by simp [bytesOf]
  | x :: xs, h => by
    have ih := bytesOf_le g m xs (fun y hy => h y (List.mem_cons_of_mem _ hy))
    have hx := h x List.mem_cons_self
    rw [Lib.size_eq] at hx
    rw [bytesOf_cons, List.length_append, List.length_cons, Nat.add_mul]
    omega
theorem bodyT_few (xs : List Lt) (hx : ∀ x ∈ xs, x.name.size ≤ 12) (hn : xs.length ≤ 4) : (bodyT xs).size ≤ 61 := by
  unfold bodyT
  by_cases h0 : xs.length = 0
  · rw [if_pos h0]; exact Nat.zero_le _
  · rw [if_neg h0, ByteArray.size_append]
    have := join_len (⟨#[44, 32]⟩ : ByteArray).data.toList 13 ((xs.map litT).map (·.data.toList)) (fun y hy => by
      obtain ⟨z, hz, rfl⟩ := List.mem_map.1 hy
      obtain ⟨x, hx', rfl⟩ := List.mem_map.1 hz
      have := lit_size (hx x hx')
      show (litT x).data.toList.length ≤ 13
      rw [Array.length_toList]
      exact this)
    have e2 : (⟨#[44, 32]⟩ : ByteArray).data.toList.length = 2 := rfl
    rw [e2, List.length_map, List.length_map] at this
    have e3 : (joinT ⟨#[44, 32]⟩ (xs.map litT)).size = (Lib.join ((xs.map litT).map (·.data.toList)) (⟨#[44, 32]⟩ : ByteArray).data.toList).length := by
      show (Lib.join _ _).toArray.size = _
      rw [List.size_toArray]
    have e4 : (⟨#[32]⟩ : ByteArray).size = 1 := rfl
    omega
theorem ruleT_few {r : Ru} (h : RuFit r) : (ruleT r r.rank.toNat).size ≤ 119 := by
  have h1 := h.2.1
  have h2 := lit_size h.2.2.1
  have h3 := bodyT_few r.body h.2.2.2.1 h.2.2.2.2
  have h4 := dig_size r.rank.toNat (by have := h.1; omega)
  unfold ruleT
  cases r.strict
  · simp only [Bool.false_eq_true, if_false, ByteArray.size_append]
    have e1 : (⟨#[114, 117, 108, 101, 32]⟩ : ByteArray).size = 5 := rfl
    have e2 : (⟨#[32]⟩ : ByteArray).size = 1 := rfl
    have e3 : (⟨#[58, 32]⟩ : ByteArray).size = 2 := rfl
    have e4 : (⟨#[61, 62]⟩ : ByteArray).size = 2 := rfl
    omega
  · simp only [if_true, ByteArray.size_append]
    have e1 : (⟨#[115, 116, 114, 105, 99, 116, 32]⟩ : ByteArray).size = 7 := rfl
    have e2 : (⟨#[32]⟩ : ByteArray).size = 1 := rfl
    have e3 : (⟨#[58, 32]⟩ : ByteArray).size = 2 := rfl
    have e4 : (⟨#[45, 62]⟩ : ByteArray).size = 2 := rfl
    omega
theorem text_size {b : Bs} (h : BsFit b) : (textL b).size ≤ b.prems.length * 61 + b.rules.length * 120 + b.proms.length * 61 := by
  have e0 : nlT.size = 1 := rfl
  have h1 := bytesOf_le premLn 61 b.prems fun p hp => by
    have f := h.1 p hp
    have := premT_size p p.rank.toNat (by have := f.2.1; omega) f.2.2.1 f.2.2.2
    unfold premLn
    rw [ByteArray.size_append]
    omega
  have h2 := bytesOf_le ruleLn 120 b.rules fun p hp => by
    have := ruleT_few (h.2.1 p hp)
    unfold ruleLn
    rw [ByteArray.size_append]
    omega
  have h3 := bytesOf_le promLn 61 b.proms fun p hp => by
    have f := h.2.2.1 p hp
    have := promT_size p p.rank.toNat (by have := f.1; omega) f.2.1 f.2.2
    unfold promLn
    rw [ByteArray.size_append]
    omega
  rw [Lib.size_eq, textL_list, textB5, List.length_append, List.length_append]
  omega
end Go.Proofs.YtfcoplplkbeljaaGreatDoor
