/- strings.Cut at a line feed; one line of whatever kind. Parse of a rule base's text. -/
import Derived.Test.YthdlmmikgpkfhaaGreatDoorZ1H
import Derived.Lib.IndexLaws

namespace Go.Proofs.YthdlmmikgpkfhaaGreatDoor
set_option linter.unusedVariables false
set_option linter.unusedSimpArgs false
open Go Go.RowKit

theorem ixN_cases (s : ByteArray) : (ixN s = -1) ∨ ∃ k : Nat, ixN s = (k : Int) ∧ k < s.size := by
  have hge := Lib.indexByte_ge s.data.toList 10
  by_cases h : ixN s = -1
  · exact .inl h
  · refine .inr ⟨(ixN s).toNat, ?_, ?_⟩
    · have : -1 ≤ ixN s := hge
      omega
    · have he : Lib.indexByte s.data.toList 10 = ((ixN s).toNat : Int) := by
        have : -1 ≤ ixN s := hge
        show ixN s = _
        omega
      have := (Lib.indexByte_some he).1
      have h2 := (List.getElem?_eq_some_iff.1 this).1
      rwa [Array.length_toList] at h2

set_option maxRecDepth 100000 in
set_option maxHeartbeats 1000000 in
theorem cut2_any (s : ByteArray) (hs : s.size ≤ 4096) (w : World) :
    Calls Tryz.prog 133 #[.string s, .string ⟨#[10]⟩] w fun e w' => e = .returned (.tuple #[.string (lineN s), .string (restN s), .bool (decide (0 ≤ ixN s))]) ∧ Below w.heap.size w w' := by
  rcases ixN_cases s with h | ⟨k, h, hk⟩
  · have e1 : lineN s = s := by unfold lineN; rw [h]; rfl
    have e2 : restN s = ⟨#[]⟩ := by unfold restN; rw [h]; rfl
    have e3 : decide (0 ≤ ixN s) = false := by rw [h]; rfl
    have HI : Hid (∀ wx, Calls Tryz.prog 143 #[.string s, .string ⟨#[10]⟩] wx fun e w' => e = .returned (.int .i64 (-1)) ∧ w' = wx) := fun wx => by
      have := Tryz.stringslite_Index_one s 10 wx
      rw [show Lib.indexByte s.data.toList 10 = -1 from h] at this
      exact this
    rw [e1, e2, e3]
    clear e1 e2 e3 h
    go_enter Tryz.func133, Tryz.ntmps133
    go_wp2_with fail
    refine (HI.out _).mono ?_
    rintro e w' ⟨rfl, rfl⟩
    go_wp2_with fail
    go_ret3
    exact ⟨rfl, Below.refl _ _⟩
  · have e1 : lineN s = s.extract 0 k := by unfold lineN; rw [h, if_pos (by omega)]; rfl
    have e2 : restN s = s.extract (k + 1) s.size := by unfold restN; rw [h, if_pos (by omega)]; rfl
    have e3 : decide (0 ≤ ixN s) = true := by rw [h]; exact decide_eq_true (by omega)
    have HI : Hid (∀ wx, Calls Tryz.prog 143 #[.string s, .string ⟨#[10]⟩] wx fun e w' => e = .returned (.int .i64 (k : Int)) ∧ w' = wx) := fun wx => by
      have := Tryz.stringslite_Index_one s 10 wx
      rw [show Lib.indexByte s.data.toList 10 = (k : Int) from h] at this
      exact this
    have HL := hidIt e1
    have HR := hidIt e2
    have HD := hidIt e3
    generalize lineN s = A at *
    generalize restN s = B at *
    generalize decide (0 ≤ ixN s) = D at *
    have c1 : (0 : Int) ≤ (k : Int) := by omega
    have c2 : (k : Int) ≤ (s.size : Int) := by omega
    have c3 : (0 : Int) ≤ (k : Int) + 1 := by omega
    have c4 : (k : Int) + 1 ≤ (s.size : Int) := by omega
    have c5 : k ≤ s.size := by omega
    have c6 : k + 1 ≤ s.size := by omega
    clear h e1 e2 e3
    go_enter Tryz.func133, Tryz.ntmps133
    go_wp2_with fail
    refine (HI.out _).mono ?_
    rintro e w' ⟨rfl, rfl⟩
    go_wp2_with fail
    go_region
    go_wp2_with fail
    all_goals
      go_ret3
      refine ⟨?_, (Below.refl _ _).drew⟩
      rw [HL.out, HR.out, HD.out]
      rfl

theorem cut5_any (s : ByteArray) (hs : s.size ≤ 4096) (w : World) :
    Calls Tryz.prog 84 #[.string s, .string ⟨#[10]⟩] w fun e w' => e = .returned (.tuple #[.string (lineN s), .string (restN s), .bool (decide (0 ≤ ixN s))]) ∧ Below w.heap.size w w' := by
  go_enter Tryz.func84, Tryz.ntmps84
  go_wp2_with fail
  refine (cut2_any s hs _).mono ?_
  rintro e w' ⟨rfl, hb⟩
  go_wp2_with fail
  go_ret3
  exact ⟨rfl, hb⟩

theorem addLine_any (E B Rb : Nat) (b : Bs) (pv rv qv : Value) (line : ByteArray) (hline : line.size ≤ 4096) (w : World) (hb : BsIn w B Rb b pv rv qv) (hE : EnvUp E w) (hEB : E ≤ Rb) (hB : B ≤ w.heap.size) (hn1 : b.prems.length ≤ 5000) (hn2 : b.rules.length ≤ 5000) (hn3 : b.proms.length ≤ 5000) :
    Calls Tryz.prog 85 #[.pointer (some ⟨Rb, 0, none⟩), .string line] w fun e w' => e = .returned (.bool (addL b line).2) ∧ (∃ pv' rv' qv', BsIn w' B Rb (addL b line).1 pv' rv' qv') ∧ Below Rb w w' := by
  cases h1 : (isStrict (hdW (wordsOf line)) || isRule (hdW (wordsOf line)))
  · cases h2 : isPromote (hdW (wordsOf line))
    · exact addLine_prem E B Rb b pv rv qv line hline w hb hE hEB hB hn1 hn2 hn3 h1 h2
    · exact addLine_prom E B Rb b pv rv qv line hline w hb hE hEB hB hn1 hn2 hn3 h1 h2
  · exact addLine_rule E B Rb b pv rv qv line hline w hb hE hEB hB hn1 hn2 hn3 _ rfl h1

theorem ok_of_le {n : Nat} (h : n ≤ 12) : n ≤ maxLen := by unfold maxLen; omega
theorem snoc_all {α : Type} {P : α → Prop} {xs : List α} {x : α} (h : ∀ y ∈ xs, P y) (hx : P x) : ∀ y ∈ xs ++ [x], P y := fun y hy => by
  rcases List.mem_append.1 hy with h1 | h1
  · exact h y h1
  · rw [List.mem_singleton.1 h1]; exact hx
theorem and3_l {a b c : Bool} (h : (!a && b && c) = true) : a = false := by cases a <;> simp_all
theorem and2_l {a b : Bool} (h : (!a && b) = true) : a = false := by cases a <;> simp_all
/-- A line that may be added adds what fits. -/
theorem addL_ok {b : Bs} {line : ByteArray} (hline : line.size ≤ 4096) (h : (addL b line).2 = true) (hb : BsOk b) : BsOk (addL b line).1 := by
  have hwt : (wordsOf line).tail.length ≤ 5000 := by have := (words_len line hline).1; rw [List.length_tail]; omega
  unfold addL addL2 at *
  split at h
  · rename_i h1
    rw [if_pos h1]
    obtain ⟨f1, f2, f3, f4, -⟩ := rdRule_fit (st := isStrict (hdW (wordsOf line))) (r := ⟨(wordsOf line).tail, false⟩) hwt (and3_l h)
    exact ⟨hb.1, snoc_all hb.2.1 ⟨ok_of_le f1, ⟨by omega, by omega⟩, ok_of_le f3, fun x hx => ok_of_le (f4 x hx)⟩, hb.2.2⟩
  · rename_i h1
    rw [if_neg h1]
    split at h
    · rename_i h2
      rw [if_pos h2]
      obtain ⟨f1, f2, f3⟩ := rdProm_fit (r := ⟨(wordsOf line).tail, false⟩) (and2_l h)
      exact ⟨hb.1, hb.2.1, snoc_all hb.2.2 ⟨ok_of_le f2, ⟨by omega, by omega⟩, ok_of_le f3⟩⟩
    · rename_i h2
      rw [if_neg h2]
      obtain ⟨f1, f2, f3, f4⟩ := rdPrem_fit (s := hdW (wordsOf line)) (r := ⟨(wordsOf line).tail, false⟩) (and3_l h)
      refine ⟨snoc_all hb.1 ⟨ok_of_le f4, ok_of_le f3, ?_, ⟨by omega, by omega⟩⟩, hb.2.1, hb.2.2⟩
      rcases f1 with h | h | h <;> rw [h] <;> exact ⟨by decide, by decide⟩
/-- A line makes each of the three lists longer by one at most. -/
theorem addL_len (b : Bs) (line : ByteArray) : (addL b line).1.prems.length ≤ b.prems.length + 1 ∧ (addL b line).1.rules.length ≤ b.rules.length + 1 ∧ (addL b line).1.proms.length ≤ b.proms.length + 1 := by
  unfold addL addL2
  split
  · simp [addRu]
  · split
    · simp [addPr]
    · simp [addPm]
theorem lineN_size (s : ByteArray) : (lineN s).size ≤ s.size := by
  unfold lineN
  split
  · rw [ByteArray.size_extract]; omega
  · exact Nat.le_refl _
theorem restN_size (s : ByteArray) (h : 0 ≤ ixN s) : (restN s).size + 1 ≤ s.size := by
  rcases ixN_cases s with h1 | ⟨k, h1, hk⟩
  · omega
  · unfold restN
    rw [if_pos h, ByteArray.size_extract, h1]
    simp
    omega
end Go.Proofs.YthdlmmikgpkfhaaGreatDoor

namespace Go.Proofs.YthdlmmikgpkfhaaGreatDoor
set_option linter.unusedVariables false
set_option linter.unusedSimpArgs false
open Go Go.RowKit

theorem empty_of_size {s : ByteArray} (h : s.size = 0) : s = ⟨#[]⟩ := by apply ByteArray.ext; exact Array.eq_empty_of_size_eq_zero h
theorem notEmpty {s : ByteArray} (h0 : ¬ s.size = 0) : s.toList.isEmpty = false ∧ ¬ s.toList = [] := by
  have hne : s.toList.isEmpty = false := by
    rw [Lib.toList_data]
    cases h : s.data.toList with
    | nil => exact absurd (by show s.data.size = 0; rw [← Array.length_toList, h]; rfl) h0
    | cons a l => rfl
  exact ⟨hne, fun h => by rw [h] at hne; cases hne⟩
theorem linesE_stop {f n : Nat} {b : Bs} {s : ByteArray} (h : s.size = 0) : linesE (f + 1) n b s = (b, 0) := by rw [linesE, if_pos h]
theorem linesE_bad {f n : Nat} {b : Bs} {s : ByteArray} (h : ¬ s.size = 0) (hb : (decide (0 ≤ ixN s) && (addL b (lineN s)).2) = false) : linesE (f + 1) n b s = (b, n) := by rw [linesE, if_neg h, if_neg (by rw [hb]; decide)]
theorem linesE_good {f n : Nat} {b : Bs} {s : ByteArray} (h : ¬ s.size = 0) (hb : (decide (0 ≤ ixN s) && (addL b (lineN s)).2) = true) : linesE (f + 1) n b s = linesE f (n + 1) (addL b (lineN s)).1 (restN s) := by rw [linesE, if_neg h, if_pos hb]
def noBs : Bs := ⟨[], [], []⟩
theorem noBase (w : World) : BaseAt w (.agg #[.slice none 0 0, .slice none 0 0, .slice none 0 0]) noBs := ⟨_, _, _, rfl, .inl ⟨noRow_nil, rfl⟩, .inl ⟨noRow_nil, rfl⟩, .inl ⟨noRow_nil, rfl⟩⟩

theorem BsIn.set {w : World} {B R : Nat} {b : Bs} {pv rv qv : Value} {g i : Nat} {u : Value} (h : BsIn w B R b pv rv qv) (hg : g < R) : BsIn (w.setCell ⟨g, i, none⟩ u) B R b pv rv qv := by
  have hlt := h.lt
  have hk : ∀ k, R ≤ k → (w.setCell ⟨g, i, none⟩ u).heap[k]? = w.heap[k]? := fun k hk => Below.heap_setCell w ⟨g, i, none⟩ u k (by show k ≠ g; omega)
  exact ⟨(hk R (Nat.le_refl _)).trans h.box, h.lt, owns_kept h.p fun k e => hk k (by have := (owns_blk h.p k e).1; omega), h.r.kept (fun k e => hk k (by have := (h.r.blk k e).1; omega)) (fun k hS _ => hk k (by have := hS.1; omega)) (by rw [size_setCell]; exact Nat.le_refl _) (fun k hS _ => hS), owns_kept h.q fun k e => hk k (by have := (owns_blk h.q k e).1; omega), h.pr, h.pq, h.rq⟩
theorem parse5a_bad (b : Bs) (n : Nat) : parse5a (b, n + 1) = (noBs, n + 1, 3) := by unfold parse5a; rw [if_pos (by show n + 1 ≠ 0; omega)]; rfl

set_option maxRecDepth 100000 in
set_option maxHeartbeats 4000000 in
theorem bparse_any (s : ByteArray) (hs : s.size ≤ maxLen) (w : World) (hE : EnvOk w) :
    Calls Tryz.prog 35 #[.string s] w fun e w' => ∃ v : Value, e = .returned (.tuple #[v, .int .i64 ((parse5 s).2.1 : Int), .int .i64 (parse5 s).2.2]) ∧ BaseAt w' v (parse5 s).1 ∧ Below w.heap.size w w' := by
  unfold maxLen at hs
  by_cases hlong : 4096 < s.size
  · have HP : Hid (parse5 s = (noBs, 0, 2)) := by show _ = _; unfold parse5; rw [if_pos hlong]; rfl
    have hl : (4096 : Int) < (s.size : Int) := by omega
    clear hlong hE
    go_enter Tryz.func35, Tryz.ntmps35
    go_wp2_with fail
    refine bodyPost_ret (v := .tuple #[.agg #[.slice none 0 0, .slice none 0 0, .slice none 0 0], .int .i64 0, .int .i64 2]) (by simp [results, Tryz.results35, go_sem]) rfl ?_
    rw [HP.out]
    exact ⟨_, rfl, noBase _, by repeat (first | exact bgrow w _ | refine below_set5 ?_ (Nat.le_refl _))⟩
  have hl : decide ((4096 : Int) < (s.size : Int)) = false := by simp; omega
  have HP : Hid (parse5 s = parse5a (linesE (s.size + 1) 1 noBs s)) := by show _ = _; unfold parse5; rw [if_neg hlong]; rfl
  have hs4 : s.size ≤ 4096 := by omega
  generalize parse5 s = PR at *
  obtain ⟨n0, hn0⟩ : ∃ n0, n0 = s.size := ⟨_, rfl⟩
  rw [← hn0] at HP
  have HLE : Hid (linesE (n0 + 1) 1 noBs s = linesE (n0 + 1) 1 noBs s) := by show _ = _; rfl
  have hn4 : n0 ≤ 4096 := by omega
  generalize hLE : linesE (n0 + 1) 1 noBs s = LE at HP
  have HL0 := hidIt hLE.symm
  have HZ := hidIt (heap_alloc_new w (.cells #[.slice none 0 0, .slice none 0 0, .slice none 0 0] 26))
  have hz1 := size_alloc w (.cells #[.slice none 0 0, .slice none 0 0, .slice none 0 0] 26)
  have HBN := hidIt (BsIn.new (w.alloc (.cells #[.slice none 0 0, .slice none 0 0, .slice none 0 0] 26)))
  have HZ2 := hidIt (blk_kept2 HZ.out (bgrow (w.alloc (.cells #[.slice none 0 0, .slice none 0 0, .slice none 0 0] 26)) (.cells #[.slice none 0 0, .slice none 0 0, .slice none 0 0] 26)))
  have HB0 := hidIt (bgrow2 w (.cells #[.slice none 0 0, .slice none 0 0, .slice none 0 0] 26) (.cells #[.slice none 0 0, .slice none 0 0, .slice none 0 0] 26))
  have HE0 := hidIt (EnvUp.start hE)
  rw [hz1] at HBN
  clear hLE HLE hE hlong HZ hz1 hs
  go_enter Tryz.func35, Tryz.ntmps35
  go_wp2_with fail
  generalize ((w.alloc (.cells #[.slice none 0 0, .slice none 0 0, .slice none 0 0] 26)).alloc (.cells #[.slice none 0 0, .slice none 0 0, .slice none 0 0] 26)) = w0 at *
  go_loopw [0, 6] (fun v0 v6 wr => ∃ (k : Nat) (sv : ByteArray) (bb : Bs) (pv rv qv : Value), v0 = .string sv ∧ v6 = .int .i64 ((k + 1 : Nat) : Int) ∧ sv.size + k ≤ n0 ∧ Hid (LE = linesE (n0 + 1 - k) (k + 1) bb sv) ∧ Hid (BsIn wr (w.heap.size + 1 + 1) (w.heap.size + 1) bb pv rv qv) ∧ Hid (BsOk bb) ∧
    Hid (bb.prems.length ≤ k ∧ bb.rules.length ≤ k ∧ bb.proms.length ≤ k) ∧ Hid (wr.heap[w.heap.size]? = some (.cells #[.slice none 0 0, .slice none 0 0, .slice none 0 0] 26 (0, 0))) ∧ Hid (Below w.heap.size w wr)) (fun v0 _ _ => match v0 with | .string x => x.size | _ => 0)
  case atStart => exact ⟨0, s, noBs, _, _, _, rfl, rfl, by omega, HL0.out, HBN.out, ⟨fun p hp => by simp [noBs] at hp, fun p hp => by simp [noBs] at hp, fun p hp => by simp [noBs] at hp⟩, ⟨by simp [noBs], by simp [noBs], by simp [noBs]⟩, HZ2.out, HB0.out⟩
  case round =>
    clear HL0 HBN HZ2 HB0
    obtain ⟨k, sv, bb, pv, rv, qv, rfl, rfl, hsk, HLr, HBr, HOr, HCr, HZr, HWr⟩ := hrel
    have hfu : n0 + 1 - k = (n0 - k) + 1 := by omega
    rw [hfu] at HLr
    clear hfu
    have hszr : w.heap.size + 1 + 1 ≤ wr.heap.size := by have := lt_of_block HBr.out.box; omega
    by_cases hz : sv.size = 0
    · have HLz : Hid (LE = (bb, 0)) := by show _ = _; rw [HLr.out, linesE_stop hz]
      obtain rfl := empty_of_size hz
      obtain ⟨ap, cp, rfl, -, -⟩ := shape_own HBr.out.p
      obtain ⟨aq, cq, rfl, -, -⟩ := shape_own HBr.out.q
      obtain ⟨ar, cr, rfl, -, -⟩ := (show ∃ (a : Option Addr) (c : Nat), rv = .slice a bb.rules.length c ∧ bb.rules.length ≤ c ∧ c ≤ maxLen by obtain ⟨bs, -, ho, -⟩ := HBr.out.r; exact shape_own ho)
      obtain ⟨b0, b1, b2⟩ := bcell3 HBr.out.box
      have lb := lt_of_block HBr.out.box
      clear HLr
      go_wp2_with fail
      refine (bvalidate_any bb HOr.out _ _ HBr.out.base).mono ?_
      rintro e w1 ⟨rfl, hb1⟩
      have HB1 := hidIt (HBr.out.go hb1)
      have HZ1 := hidIt (blk_kept2 HZr.out hb1)
      have HW1 := hidIt (HWr.out.trans (Below.mono hb1 (by omega)))
      have hs1 := hb1.size
      clear hb1 HBr HZr HWr b0 b1 b2 lb
      obtain ⟨b0, b1, b2⟩ := bcell3 HB1.out.box
      obtain ⟨z0, z1, z2⟩ := bcell3 HZ1.out
      have f0 := free_any HZ1.out 0
      have f1 := free_any HZ1.out 1
      have f2 := free_any HZ1.out 2
      have lb := lt_of_block HB1.out.box
      have lz := lt_of_block HZ1.out
      have HPb : Hid (PR = if baseE bb ≠ 0 then (noBs, 0, baseE bb) else (bb, 0, 0)) := by show _ = _; rw [HP.out, HLz.out]; rfl
      clear HP HLz
      generalize baseE bb = z at *
      by_cases hzz : z = 0
      · subst hzz
        have HPc : Hid (PR = (bb, 0, 0)) := by show _ = _; rw [HPb.out, if_neg (by decide)]
        clear HPb
        go_wp2_with fail
        refine bodyPost_ret (v := .tuple #[.agg #[.slice ap bb.prems.length cp, .slice ar bb.rules.length cr, .slice aq bb.proms.length cq], .int .i64 0, .int .i64 0]) (by simp [results, Tryz.results35, go_sem, z0, z1, z2, lz]) rfl ?_
        rw [HPc.out]
        refine ⟨_, rfl, BsIn.base (B := w.heap.size + 1 + 1) (R := w.heap.size + 1) ?_, ?_⟩
        · repeat refine BsIn.set ?_ (by omega)
          exact HB1.out
        · repeat refine below_set5 ?_ (Nat.le_refl _)
          exact HW1.out
      · have hzb : (z == 0) = false := beq_eq_false_iff_ne.2 hzz
        have HPc : Hid (PR = (noBs, 0, z)) := by show _ = _; rw [HPb.out, if_pos hzz]
        clear HPb
        go_wp2_with fail
        refine bodyPost_ret (v := .tuple #[.agg #[.slice none 0 0, .slice none 0 0, .slice none 0 0], .int .i64 0, .int .i64 z]) (by simp [results, Tryz.results35, go_sem, z0, z1, z2, lz]) rfl ?_
        rw [HPc.out]
        refine ⟨_, rfl, noBase _, ?_⟩
        repeat refine below_set5 ?_ (Nat.le_refl _)
        exact HW1.out
    · obtain ⟨hne1, hne2⟩ := notEmpty hz
      have hsv : sv.size ≤ 4096 := by omega
      have HCUT := hidIt (cut5_any sv hsv)
      have hls : (lineN sv).size ≤ 4096 := Nat.le_trans (lineN_size sv) hsv
      go_wp2_with fail
      refine (HCUT.out _).mono ?_
      rintro e w1 ⟨rfl, hb1⟩
      have HB1 := hidIt (HBr.out.go hb1)
      have HZ1 := hidIt (blk_kept2 HZr.out hb1)
      have HW1 := hidIt (HWr.out.trans (Below.mono hb1 (by omega)))
      have HE1 := hidIt (HE0.out.go HW1.out)
      have hs1 := hb1.size
      clear hb1 HBr HZr HWr HCUT
      have HXOK := hidIt (fun h => addL_ok (b := bb) (line := lineN sv) hls h HOr.out)
      have HXLN := hidIt (addL_len bb (lineN sv))
      have HRST := hidIt (restN_size sv)
      have HADD := hidIt (addLine_any w.heap.size (w.heap.size + 1 + 1) (w.heap.size + 1) bb pv rv qv (lineN sv) hls w1 HB1.out HE1.out (by omega) (by omega) (by have := HCr.out; omega) (by have := HCr.out; omega) (by have := HCr.out; omega))
      have HLB := hidIt (fun h => linesE_bad (f := n0 - k) (n := k + 1) (b := bb) hz h)
      have HLG := hidIt (fun h => linesE_good (f := n0 - k) (n := k + 1) (b := bb) hz h)
      generalize addL bb (lineN sv) = X at *
      generalize lineN sv = ln at *
      generalize restN sv = rs at *
      cases hD : decide (0 ≤ ixN sv)
      case false =>
        have HPX : Hid (PR = (noBs, k + 1, 3)) := by show _ = _; rw [HP.out, HLr.out, HLB.out (by first | rfl | (rw [hD]; rfl)), parse5a_bad]
        have HZX := HZ1
        have HWX := HW1
        clear HXOK HXLN HRST HADD HLB HLG HP HLr HB1 HZ1 HW1
        obtain ⟨z0, z1, z2⟩ := bcell3 HZX.out
        have f0 := free_any HZX.out 0
        have f1 := free_any HZX.out 1
        have f2 := free_any HZX.out 2
        have lz := lt_of_block HZX.out
        go_wp2_with fail
        refine bodyPost_ret (v := .tuple #[.agg #[.slice none 0 0, .slice none 0 0, .slice none 0 0], .int .i64 ((k + 1 : Nat) : Int), .int .i64 3]) (by simp [results, Tryz.results35, go_sem, z0, z1, z2, lz]) rfl ?_
        rw [HPX.out]
        refine ⟨_, rfl, noBase _, ?_⟩
        repeat refine below_set5 ?_ (Nat.le_refl _)
        exact HWX.out
      case true =>
        have hR2 := HRST.out (of_decide_eq_true hD)
        try rw [hD] at HLB HLG
        go_wp2_with fail
        refine HADD.out.mono ?_
        rintro e w2 ⟨rfl, ⟨pv', rv', qv', hb2⟩, hbel2⟩
        have HB2 := hidIt hb2
        have HZ2 := hidIt ((hbel2.block w.heap.size (by omega)).trans HZ1.out)
        have HW2 := hidIt (HW1.out.trans (Below.mono hbel2 (by omega)))
        clear hb2 hbel2 HB1 HZ1 HW1 HE1 HADD HRST
        obtain ⟨xb, xo⟩ := X
        cases xo
        case false =>
          have HPX : Hid (PR = (noBs, k + 1, 3)) := by show _ = _; rw [HP.out, HLr.out, HLB.out rfl, parse5a_bad]
          have HZX := HZ2
          have HWX := HW2
          clear HXOK HXLN HLB HLG HP HLr HB2 HZ2 HW2
          obtain ⟨z0, z1, z2⟩ := bcell3 HZX.out
          have f0 := free_any HZX.out 0
          have f1 := free_any HZX.out 1
          have f2 := free_any HZX.out 2
          have lz := lt_of_block HZX.out
          go_wp2_with fail
          refine bodyPost_ret (v := .tuple #[.agg #[.slice none 0 0, .slice none 0 0, .slice none 0 0], .int .i64 ((k + 1 : Nat) : Int), .int .i64 3]) (by simp [results, Tryz.results35, go_sem, z0, z1, z2, lz]) rfl ?_
          rw [HPX.out]
          refine ⟨_, rfl, noBase _, ?_⟩
          repeat refine below_set5 ?_ (Nat.le_refl _)
          exact HWX.out
        case true =>
          have HLN : Hid (LE = linesE (n0 + 1 - (k + 1)) (k + 1 + 1) xb rs) := by
            show _ = _
            rw [HLr.out, HLG.out rfl, show n0 + 1 - (k + 1) = n0 - k by omega]
          have HOX := hidIt (HXOK.out rfl)
          have HCX : Hid (xb.prems.length ≤ k + 1 ∧ xb.rules.length ≤ k + 1 ∧ xb.proms.length ≤ k + 1) := by
            have h1 := HXLN.out
            have h2 := HCr.out
            simp only at h1
            exact ⟨by omega, by omega, by omega⟩
          clear HXOK HXLN HLB HLG HLr HCr HOr
          go_wp2_with fail
          go_roundw
          case rel => exact ⟨k + 1, rs, xb, pv', rv', qv', rfl, by go_num, by omega, HLN.out, HB2.out, HOX.out, HCX.out, HZ2.out, HW2.out⟩
          case measure => simp; omega
end Go.Proofs.YthdlmmikgpkfhaaGreatDoor
