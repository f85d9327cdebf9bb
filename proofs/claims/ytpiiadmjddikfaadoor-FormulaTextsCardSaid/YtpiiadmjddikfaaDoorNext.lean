/- The parser's state, and next. -/
import Derived.Test.YtpiiadmjddikfaaDoorTok
import Derived.StillTailTactics
import Derived.Deep.LoopGhost
namespace Go.Proofs.YtpiiadmjddikfaaDoor
set_option linter.unusedVariables false
set_option linter.unusedSimpArgs false
open Go.RowKit

/-- Behind spaces. -/
def skipS (l : List UInt8) : List UInt8 := l.dropWhile fun c => c == 32
/-- Behind the current token. -/
def nxt (l : List UInt8) : List UInt8 := skipS (l.drop (tok l).length)

/-- The parser's three cells. -/
def PBox (w : World) (b : Nat) (s : ByteArray) (p : Nat) (t : ByteArray) : Prop := w.heap[b]? = some (.cells #[.string s, .int .i64 (p : Int), .string t] 59 (0, 0))

theorem skipS_step {l : List UInt8} {q : Nat} (hq : q < l.length) (h : l[q] = 32) : skipS (l.drop (q + 1)) = skipS (l.drop q) := by
  rw [List.drop_eq_getElem_cons hq, skipS, skipS, List.dropWhile_cons, if_pos (by rw [h]; rfl)]
theorem skipS_stop {l : List UInt8} {q : Nat} (h : ∀ c, l[q]? = some c → c ≠ 32) : skipS (l.drop q) = l.drop q := by
  by_cases hq : q < l.length
  · rw [List.drop_eq_getElem_cons hq, skipS, List.dropWhile_cons, if_neg]
    have := h _ (List.getElem?_eq_getElem hq)
    simpa using this
  · rw [List.drop_eq_nil_of_le (by omega)]; rfl

theorem PBox.cells {w : World} {b : Nat} {s : ByteArray} {p : Nat} {t : ByteArray} (h : PBox w b s p t) : w.cell? ⟨b, 0, none⟩ = some (.string s) ∧ w.cell? ⟨b, 1, none⟩ = some (.int .i64 (p : Int)) ∧ w.cell? ⟨b, 2, none⟩ = some (.string t) := cell_of3 h
theorem PBox.free {w : World} {b : Nat} {s : ByteArray} {p : Nat} {t : ByteArray} (h : PBox w b s p t) (k : Nat) : w.frozen? ⟨b, k, none⟩ = false := free_any h k
theorem PBox.set1 {w : World} {b : Nat} {s : ByteArray} {p : Nat} {t : ByteArray} (h : PBox w b s p t) (q : Nat) : PBox (w.setCell ⟨b, 1, none⟩ (.int .i64 (q : Int))) b s q t := setCell_heap_self h _
theorem PBox.set2 {w : World} {b : Nat} {s : ByteArray} {p : Nat} {t : ByteArray} (h : PBox w b s p t) (u : ByteArray) : PBox (w.setCell ⟨b, 2, none⟩ (.string u)) b s p u := setCell_heap_self h _
theorem PBox.drewN {w : World} {b : Nat} {s : ByteArray} {p : Nat} {t : ByteArray} (h : PBox w b s p t) (n : Nat) : PBox (w.drewN n) b s p t := h
theorem PBox.lt {w : World} {b : Nat} {s : ByteArray} {p : Nat} {t : ByteArray} (h : PBox w b s p t) : b < w.heap.size := lt_of_block h

theorem extract_drop (s : ByteArray) (k : Nat) : s.extract k s.size = ⟨(s.data.toList.drop k).toArray⟩ := by
  obtain ⟨⟨l⟩⟩ := s
  apply ByteArray.ext
  rw [ByteArray.data_extract]
  show (l.toArray).extract k l.toArray.size = _
  rw [List.size_toArray, List.extract_toArray]
  congr 1
  rw [List.extract_eq_take_drop]
  exact List.take_of_length_le (by simp)
theorem extract_size' (s : ByteArray) (k : Nat) : (s.extract k s.size).size = s.size - k := by
  rw [extract_drop, mk_size, List.length_drop]
  rfl

set_option maxRecDepth 100000 in
set_option maxHeartbeats 1000000 in
theorem next_any (s : ByteArray) (hs : s.size ≤ 1000000) (p : Nat) (t : ByteArray) (hp : p + t.size ≤ s.size) (b : Nat) (hb0 : b ≠ 0) (w : World) (h : PBox w b s p t) (hsg : SignsAt w) :
    Calls Tryd.prog 40 #[.pointer (some ⟨b, 0, none⟩)] w fun e w' => e = .returned (.tuple #[]) ∧ ∃ q, q ≤ s.size ∧ s.data.toList.drop q = skipS (s.data.toList.drop (p + t.size)) ∧ PBox w' b s q ⟨(tok (s.data.toList.drop q)).toArray⟩ ∧ w.grownBy w' (some b) := by
  obtain ⟨c0, c1, c2⟩ := h.cells
  have f1 := h.free 1
  have hlt := h.lt
  have H := hidIt h
  have HSG := hidIt hsg
  clear h hsg
  have hwr : IntKind.i64.wrap ((p : Int) + (t.size : Int)) = (p : Int) + (t.size : Int) := IntWalk.i64_in _ (by omega)
  go_enter Tryd.func40, Tryd.ntmps40
  go_wp2_with fail
  go_still_tail 12, (by kernel_rfl)
  go_wp2_with fail
  have W0 : Hid (PBox (w.setCell ⟨b, 1, none⟩ (.int .i64 ((p : Int) + (t.size : Int)))).drew b s (p + t.size) t) := by
    have := H.out.set1 (p + t.size)
    rw [Int.natCast_add] at this
    exact this
  have G0 : Hid (w.grownBy (w.setCell ⟨b, 1, none⟩ (.int .i64 ((p : Int) + (t.size : Int)))).drew (some b)) := only_drewN (only_setCell (only_refl _ _) (.inl rfl) _) 1
  clear c0 c1 c2 f1 hwr
  generalize (w.setCell ⟨b, 1, none⟩ (.int .i64 ((p : Int) + (t.size : Int)))).drew = W at *
  go_loopg [] (s.size - (p + t.size)) (fun g wr => ∃ q : Nat, q ≤ s.size ∧ g = s.size - q ∧ Hid (skipS (s.data.toList.drop q) = skipS (s.data.toList.drop (p + t.size))) ∧ Hid (PBox wr b s q t) ∧ Hid (w.grownBy wr (some b)))
  case atStart => exact ⟨p + t.size, hp, rfl, rfl, W0.out, G0.out⟩
  case round =>
    clear W0 G0
    obtain ⟨q, hq, rfl, hsk, hbox, hgr⟩ := hrel
    obtain ⟨c0, c1, c2⟩ := hbox.out.cells
    have f1 := hbox.out.free 1
    have f2 := hbox.out.free 2
    have hlt2 := hbox.out.lt
    by_cases hlt3 : q < s.size
    · by_cases h32 : s[q] = 32
      · have hb : (((s[q].toNat : Nat) : Int) == 32) = true := by rw [h32]; rfl
        have HS : Hid (skipS (s.data.toList.drop (q + 1)) = skipS (s.data.toList.drop (p + t.size))) := (skipS_step (by simpa using hlt3) h32).trans hsk.out
        clear h32
        go_wp2_with fail
        go_quiet (fail)
        go_wp2_with fail
        go_roundg (s.size - (q + 1))
        case measure => omega
        case rel => exact ⟨q + 1, by omega, rfl, HS, (by have := (hbox.out.drewN nq).set1 (q + 1); rw [Int.natCast_add] at this; exact this), only_setCell (only_drewN hgr.out nq) (.inl rfl) _⟩
      · have hb : (((s[q].toNat : Nat) : Int) == 32) = false := by
          rw [beq_eq_false_iff_ne]
          intro e
          exact h32 (UInt8.toNat_inj.1 (by rw [show (32 : UInt8).toNat = 32 from rfl]; omega))
        have HS : Hid (s.data.toList.drop q = skipS (s.data.toList.drop (p + t.size))) := by
          show _ = _
          rw [← hsk.out, skipS_stop]
          intro c hc
          obtain ⟨h1, h2⟩ := List.getElem?_eq_some_iff.1 hc
          rw [← h2]
          exact h32
        have hX : Hid ((s.extract q s.size).data.toList = s.data.toList.drop q) := by
          show _ = _
          rw [extract_drop s q]
        have hFT := firstToken_any (s.extract q s.size) (by rw [extract_size' s q]; omega)
        rw [hX.out] at hFT
        have HFT := hidIt hFT
        clear h32 hFT
        go_wp2_with fail
        go_quiet (fail)
        obtain ⟨W2, hW2⟩ : ∃ W, W = wr.drewN nq := ⟨_, rfl⟩
        have hbox2 : PBox W2 b s q t := by rw [hW2]; exact hbox.out.drewN nq
        have hgr2 : Hid (w.grownBy W2 (some b)) := by show World.grownBy _ _ _; rw [hW2]; exact only_drewN hgr.out nq
        rw [← hW2]
        clear hW2 c0 c1 c2 f1 f2 hlt2 hbox hgr
        obtain ⟨c0, c1, c2⟩ := hbox2.cells
        have f2 := hbox2.free 2
        have hlt2 := hbox2.lt
        have HB2 := hidIt hbox2
        have hsg2 := hidIt (HSG.out.kept hgr2.out (fun e => hb0 (by injection e)))
        clear hbox2
        go_wp2_with fail
        refine wp_region_still_tail 13 (by kernel_rfl) (by kernel_rfl) ?_
        simp only [List.take_succ_cons, List.take_zero, List.drop_succ_cons, List.drop_zero]
        repeat still_step
        still_call (HFT.out _ (hsg2.out.go (Below.refl _ _).drew))
        repeat still_step
        refine wpStill_nil ?_
        go_wp2_with fail
        go_end0
        exact ⟨rfl, q, hq, HS.out, (HB2.out.drewN 1).set2 _, only_setCell (only_drewN hgr2.out 1) (.inl rfl) _⟩
    · have hqs : q = s.size := by omega
      have HS : Hid (s.data.toList.drop q = skipS (s.data.toList.drop (p + t.size))) := by
        show _ = _
        rw [← hsk.out, skipS_stop]
        intro c hc
        obtain ⟨h1, h2⟩ := List.getElem?_eq_some_iff.1 hc
        exact absurd h1 (by simp; omega)
      have hX : Hid ((s.extract q s.size).data.toList = s.data.toList.drop q) := by
        show _ = _
        rw [extract_drop s q]
      have hFT := firstToken_any (s.extract q s.size) (by rw [extract_size' s q]; omega)
      rw [hX.out] at hFT
      have HFT := hidIt hFT
      clear hFT hqs
      go_wp2_with fail
      go_quiet (fail)
      obtain ⟨W2, hW2⟩ : ∃ W, W = wr.drewN nq := ⟨_, rfl⟩
      have hbox2 : PBox W2 b s q t := by rw [hW2]; exact hbox.out.drewN nq
      have hgr2 : Hid (w.grownBy W2 (some b)) := by show World.grownBy _ _ _; rw [hW2]; exact only_drewN hgr.out nq
      rw [← hW2]
      clear hW2 c0 c1 c2 f1 f2 hlt2 hbox hgr
      obtain ⟨c0, c1, c2⟩ := hbox2.cells
      have f2 := hbox2.free 2
      have hlt2 := hbox2.lt
      have HB2 := hidIt hbox2
      have hsg2 := hidIt (HSG.out.kept hgr2.out (fun e => hb0 (by injection e)))
      clear hbox2
      go_wp2_with fail
      refine wp_region_still_tail 13 (by kernel_rfl) (by kernel_rfl) ?_
      simp only [List.take_succ_cons, List.take_zero, List.drop_succ_cons, List.drop_zero]
      repeat still_step
      still_call (HFT.out _ (hsg2.out.go (Below.refl _ _).drew))
      repeat still_step
      refine wpStill_nil ?_
      go_wp2_with fail
      go_end0
      exact ⟨rfl, q, hq, HS.out, (HB2.out.drewN 1).set2 _, only_setCell (only_drewN hgr2.out 1) (.inl rfl) _⟩
end Go.Proofs.YtpiiadmjddikfaaDoor
