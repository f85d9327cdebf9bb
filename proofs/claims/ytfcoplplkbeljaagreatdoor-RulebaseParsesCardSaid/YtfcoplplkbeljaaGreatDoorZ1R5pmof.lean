/- The reference's reading of a line of a premise. -/
import Derived.Test.YtfcoplplkbeljaaGreatDoorZ1T
import Derived.Test.YtfcoplplkbeljaaGreatDoorZ1U
import Derived.Deep.CutBlock

namespace Go.Proofs.YtfcoplplkbeljaaGreatDoor
set_option linter.unusedVariables false
set_option linter.unusedSimpArgs false
open Go Go.RowKit

set_option maxRecDepth 100000 in
set_option maxHeartbeats 4000000 in
theorem r5premOf_any (s : ByteArray) (ws : List ByteArray) (B : Nat) (v : Value) (hws : ∀ x ∈ ws, x.size ≤ 100000) (hl : 0 < ws.length) (w : World) (h : OwnWs w B v ws) :
    Calls Tryz.prog 104 #[.string s, v] w fun e w' => e = .returned (if premK s ws = true then lineV 1 (premC ws) noRu (.slice none 0 0) noPr else line0) ∧ Below w.heap.size w w' := by
  have HAT := hidIt (atW_size hws)
  obtain ⟨a, c, rfl, hc0⟩ := h.cells
  obtain ⟨g0, rfl, hg0, hcell0⟩ := hc0 0 hl
  have hat0 : ws[0] = atW ws 0 := by unfold atW; rw [List.getD_eq_getElem?_getD, List.getElem?_eq_getElem hl]; rfl
  rw [hat0] at hcell0
  have HC0 := hidIt hcell0
  have HO := hidIt h
  have hlI : (0 : Int) < (ws.length : Int) := by omega
  have hgr0 := bgrow w (.cells #[.int .i64 0, .bool false, .string ⟨#[]⟩, .int .i64 0, .int .i64 0, .string ⟨#[]⟩, .string ⟨#[]⟩, .bool false, .int .i64 0, .slice none 0 0, .bool false, .string ⟨#[]⟩, .string ⟨#[]⟩, .int .i64 0, .bool false, .string ⟨#[]⟩] 88)
  have HZ0 := hidIt (heap_alloc_new w (.cells #[.int .i64 0, .bool false, .string ⟨#[]⟩, .int .i64 0, .int .i64 0, .string ⟨#[]⟩, .string ⟨#[]⟩, .bool false, .int .i64 0, .slice none 0 0, .bool false, .string ⟨#[]⟩, .string ⟨#[]⟩, .int .i64 0, .bool false, .string ⟨#[]⟩] 88))
  have hgr1 := bgrow (w.alloc (.cells #[.int .i64 0, .bool false, .string ⟨#[]⟩, .int .i64 0, .int .i64 0, .string ⟨#[]⟩, .string ⟨#[]⟩, .bool false, .int .i64 0, .slice none 0 0, .bool false, .string ⟨#[]⟩, .string ⟨#[]⟩, .int .i64 0, .bool false, .string ⟨#[]⟩] 88)) (.cells #[.bool false, .string ⟨#[]⟩, .int .i64 1, .int .i64 0, .string ⟨#[]⟩] 74)
  have hP1 := heap_alloc_new (w.alloc (.cells #[.int .i64 0, .bool false, .string ⟨#[]⟩, .int .i64 0, .int .i64 0, .string ⟨#[]⟩, .string ⟨#[]⟩, .bool false, .int .i64 0, .slice none 0 0, .bool false, .string ⟨#[]⟩, .string ⟨#[]⟩, .int .i64 0, .bool false, .string ⟨#[]⟩] 88)) (.cells #[.bool false, .string ⟨#[]⟩, .int .i64 1, .int .i64 0, .string ⟨#[]⟩] 74)
  rw [size_alloc] at hP1
  have HP1 := hidIt hP1
  have HZ1 := hidIt (blk_kept2 HZ0.out hgr1)
  have HB1 := hidIt (hgr0.trans (Below.mono hgr1 hgr0.size))
  generalize hR : (if premK s ws = true then lineV 1 (premC ws) noRu (.slice none 0 0) noPr else line0) = RES
  have HR := hidIt hR
  clear h hws hgr0 hgr1 hP1 HZ0 hR hcell0 hat0 hc0
  go_enter Tryz.func104, Tryz.ntmps104
  go_upto_region 3 with (fail)
  generalize hW1 : ((w.alloc (.cells #[.int .i64 0, .bool false, .string ⟨#[]⟩, .int .i64 0, .int .i64 0, .string ⟨#[]⟩, .string ⟨#[]⟩, .bool false, .int .i64 0, .slice none 0 0, .bool false, .string ⟨#[]⟩, .string ⟨#[]⟩, .int .i64 0, .bool false, .string ⟨#[]⟩] 88)).alloc (.cells #[.bool false, .string ⟨#[]⟩, .int .i64 1, .int .i64 0, .string ⟨#[]⟩] 74)) = w1 at *
  clear hW1
  have HC1 : Hid (w1.cell? ⟨g0, 0, none⟩ = some (.string (atW ws 0))) := (Below.cell (p := ⟨g0, 0, none⟩) HB1.out hg0).trans HC0.out
  have HO1 := hidIt (HO.out.go HB1.out)
  clear HC0
  -- the switch on the first word
  have hc1 := HC1.out
  have lg1 : g0 < w1.heap.size := Nat.lt_of_lt_of_le hg0 HB1.out.size
  go_upto_block 0 with (fail)
  clear hc1 lg1
  go_cut [6] from 9 (fun nx wx => nx = .int .i64 (premNx ws : Int) ∧ wx.heap[w.heap.size + 1]? = some (.cells #[.bool false, .string ⟨#[]⟩, .int .i64 (premKd ws), .int .i64 (premRk ws), .string ⟨#[]⟩] 74 (0, 0)) ∧ wx.heap[w.heap.size]? = some (.cells #[.int .i64 0, .bool false, .string ⟨#[]⟩, .int .i64 0, .int .i64 0, .string ⟨#[]⟩, .string ⟨#[]⟩, .bool false, .int .i64 0, .slice none 0 0, .bool false, .string ⟨#[]⟩, .string ⟨#[]⟩, .int .i64 0, .bool false, .string ⟨#[]⟩] 88 (0, 0)) ∧ Below w.heap.size w wx)
  case first =>
    cases hp : ((atW ws 0).toList == [112, 114, 101, 109, 105, 115, 101])
    · have EN : Hid (premNx ws = 2 ∧ premRk ws = 0) := by show _ ∧ _; unfold premNx premRk isPrem; rw [hp]; exact ⟨rfl, rfl⟩
      cases ha : ((atW ws 0).toList == [97, 115, 115, 117, 109, 101])
      · have EK : Hid (premKd ws = 1) := by show _ = _; unfold premKd isPrem isAssume; rw [hp, ha]; rfl
        go_wp2_with fail
        go_meet
        exact ⟨by rw [EN.out.1]; rfl, by rw [EK.out, EN.out.2]; exact HP1.out, HZ1.out, HB1.out⟩
      · have EK : Hid (premKd ws = 3) := by show _ = _; unfold premKd isPrem isAssume; rw [hp, ha]; rfl
        obtain ⟨x0, x1, x2, x3, x4⟩ := bcell5 HP1.out
        have lx := lt_of_block HP1.out
        have f2 := free_any HP1.out 2
        go_wp2_with fail
        go_meet
        refine ⟨by rw [EN.out.1]; rfl, by rw [EK.out, EN.out.2]; exact set_cells HP1.out, ?_, below_set5 HB1.out (Nat.le_succ _)⟩
        rw [Below.heap_setCell w1 ⟨w.heap.size + 1, 2, none⟩ _ w.heap.size (by show w.heap.size ≠ w.heap.size + 1; omega)]
        exact HZ1.out
    · have EN : Hid (premNx ws = 3 ∧ premRk ws = numW (atW ws 2) ∧ premKd ws = 2) := by show _ ∧ _; unfold premNx premRk premKd isPrem; rw [hp]; exact ⟨rfl, rfl, rfl⟩
      obtain ⟨x0, x1, x2, x3, x4⟩ := bcell5 HP1.out
      have lx := lt_of_block HP1.out
      have f2 := free_any HP1.out 2
      have f3 := free_any HP1.out 3
      go_wp2_with fail
      refine (r5at_any ws B _ 2 (by omega) _ HO1.out).mono ?_
      rintro e w2 ⟨rfl, rfl⟩
      go_wp2_with fail
      refine (r5number_any (atW ws 2) (Nat.le_trans (HAT.out 2) (by unfold maxLen; omega)) _).mono ?_
      rintro e w2 ⟨rfl, rfl⟩
      go_wp2_with fail
      go_meet
      refine ⟨by rw [EN.out.1]; rfl, by rw [EN.out.2.2, EN.out.2.1]; exact set_cells (set_cells HP1.out), ?_, below_set5 (below_set5 HB1.out (Nat.le_succ _)) (Nat.le_succ _)⟩
      rw [Below.heap_setCell _ ⟨w.heap.size + 1, 3, none⟩ _ w.heap.size (by show w.heap.size ≠ w.heap.size + 1; omega), Below.heap_setCell _ ⟨w.heap.size + 1, 2, none⟩ _ w.heap.size (by show w.heap.size ≠ w.heap.size + 1; omega)]
      exact HZ1.out
  case rest =>
    obtain ⟨rfl, hPx, hZx, hBx⟩ := hcut
    have HPX := hidIt hPx
    have HZX := hidIt hZx
    have HBX := hidIt hBx
    have HOX := hidIt (HO.out.go hBx)
    have HNXB : Hid (premNx ws = 2 ∨ premNx ws = 3) := by show _ ∨ _; unfold premNx; split <;> simp
    clear hPx hZx hBx HC1 HO1 HP1 HZ1 HB1
    go_wp2_with fail
    refine (r5at_any ws B _ 1 (by omega) _ HOX.out).mono ?_
    rintro e w2 ⟨rfl, rfl⟩
    go_wp2_with fail
    refine (rParse_any (atW ws 1) _ (Nat.le_trans (HAT.out 1) (by unfold maxLen; omega))).mono ?_
    rintro e w2 ⟨rfl, hb2⟩
    have hb3 := Below.trans hb2 (Below.mono (bgrow w2 (.cells #[.bool (parsedNeg (atW ws 1)), .string (parsedName (atW ws 1))] 46)) hb2.size)
    have HK3 := hidIt (heap_alloc_new w2 (.cells #[.bool (parsedNeg (atW ws 1)), .string (parsedName (atW ws 1))] 46))
    have HP3 := hidIt (blk_kept2 HPX.out hb3)
    have HZ3 := hidIt (blk_kept2 HZX.out hb3)
    have HB3 := hidIt (HBX.out.trans (Below.mono hb3 HBX.out.size))
    have HN12 : Hid ((parsedName (atW ws 1)).size ≤ 12) := litW_size (atW ws 1)
    have HNE : Hid (w2.heap.size ≠ w.heap.size + 1) := by
      have h1 := lt_of_block HPX.out
      have h2 := hb2.size
      show _ ≠ _
      omega
    clear hb2 hb3 HPX HZX HBX
    go_upto_region 9 with (fail)
    obtain ⟨k0, k1⟩ := bcell2r HK3.out
    have lk := lt_of_block HK3.out
    obtain ⟨p5, hp5⟩ : ∃ p, p = w2.heap.size := ⟨_, rfl⟩
    rw [← hp5] at HK3 HNE k0 k1 lk ⊢
    clear hp5
    generalize (w2.alloc (.cells #[.bool (parsedNeg (atW ws 1)), .string (parsedName (atW ws 1))] 46)) = w3 at *
    obtain ⟨x0, x1, x2, x3, x4⟩ := bcell5 HP3.out
    have lx := lt_of_block HP3.out
    have f0 := free_any HP3.out 0
    have f1 := free_any HP3.out 1
    go_upto_region 10 with (fail)
    have HP4 := hidIt (set_cells (i := 1) (u := .string (parsedName (atW ws 1))) (set_cells (i := 0) (u := .bool (parsedNeg (atW ws 1))) HP3.out))
    have HZ4 : Hid (((w3.setCell ⟨w.heap.size + 1, 0, none⟩ (.bool (parsedNeg (atW ws 1)))).setCell ⟨w.heap.size + 1, 1, none⟩ (.string (parsedName (atW ws 1)))).heap[w.heap.size]? = some (.cells #[.int .i64 0, .bool false, .string ⟨#[]⟩, .int .i64 0, .int .i64 0, .string ⟨#[]⟩, .string ⟨#[]⟩, .bool false, .int .i64 0, .slice none 0 0, .bool false, .string ⟨#[]⟩, .string ⟨#[]⟩, .int .i64 0, .bool false, .string ⟨#[]⟩] 88 (0, 0))) := by
      show _ = _
      rw [Below.heap_setCell _ ⟨w.heap.size + 1, 1, none⟩ _ w.heap.size (by show w.heap.size ≠ w.heap.size + 1; omega), Below.heap_setCell _ ⟨w.heap.size + 1, 0, none⟩ _ w.heap.size (by show w.heap.size ≠ w.heap.size + 1; omega)]
      exact HZ3.out
    have HB4 := hidIt (below_set5 (below_set5 HB3.out (Nat.le_succ w.heap.size) (i := 0) (u := .bool (parsedNeg (atW ws 1)))) (Nat.le_succ w.heap.size) (i := 1) (u := .string (parsedName (atW ws 1))))
    clear k0 k1 lk x0 x1 x2 x3 x4 lx f0 f1 HP3 HZ3 HB3 HK3 HNE
    generalize ((w3.setCell ⟨w.heap.size + 1, 0, none⟩ (.bool (parsedNeg (atW ws 1)))).setCell ⟨w.heap.size + 1, 1, none⟩ (.string (parsedName (atW ws 1)))) = w4 at *
    have HP5 : Hid (w4.heap[w.heap.size + 1]? = some (.cells #[.bool (parsedNeg (atW ws 1)), .string (parsedName (atW ws 1)), .int .i64 (premKd ws), .int .i64 (premRk ws), .string ⟨#[]⟩] 74 (0, 0))) := HP4.out
    have HO4 := hidIt (HO.out.go HB4.out)
    clear HP4 HOX
    -- the source
    go_wp2_with fail
    refine (r5at_any ws B _ (premNx ws) (by have := HNXB.out; omega) _ HO4.out).mono ?_
    rintro e w5 ⟨rfl, rfl⟩
    go_upto_if 34 with (fail)
    go_cut [] from 9 (fun wx => wx.heap[w.heap.size + 1]? = some (.cells #[.bool (parsedNeg (atW ws 1)), .string (parsedName (atW ws 1)), .int .i64 (premKd ws), .int .i64 (premRk ws), .string (premSr ws)] 74 (0, 0)) ∧ wx.heap[w.heap.size]? = some (.cells #[.int .i64 0, .bool false, .string ⟨#[]⟩, .int .i64 0, .int .i64 0, .string ⟨#[]⟩, .string ⟨#[]⟩, .bool false, .int .i64 0, .slice none 0 0, .bool false, .string ⟨#[]⟩, .string ⟨#[]⟩, .int .i64 0, .bool false, .string ⟨#[]⟩] 88 (0, 0)) ∧ Below w.heap.size w wx)
    case first =>
      cases hf : ((atW ws (premNx ws)).toList == [102, 114, 111, 109])
      · have ES : Hid (premSr ws = ⟨#[]⟩) := by show _ = _; unfold premSr isFrom; rw [hf]; rfl
        go_wp2_with fail
        go_meet
        exact ⟨by rw [ES.out]; exact HP5.out, HZ4.out, HB4.out⟩
      · have ES : Hid (premSr ws = atW ws (premNx ws + 1)) := by show _ = _; unfold premSr isFrom; rw [hf]; rfl
        have hnx := HNXB.out
        have hnlt : ((premNx ws : Nat) : Int) ≤ 3 := by omega
        have hnge : (0 : Int) ≤ ((premNx ws : Nat) : Int) := by omega
        obtain ⟨x0, x1, x2, x3, x4⟩ := bcell5 HP5.out
        have lx := lt_of_block HP5.out
        have f4 := free_any HP5.out 4
        go_wp2_with fail
        rw [show ((premNx ws : Nat) : Int) + 1 = ((premNx ws + 1 : Nat) : Int) by omega]
        refine (r5at_any ws B _ (premNx ws + 1) (by omega) _ HO4.out).mono ?_
        rintro e w5 ⟨rfl, rfl⟩
        go_wp2_with fail
        go_meet
        refine ⟨by rw [ES.out]; exact set_cells HP5.out, ?_, below_set5 HB4.out (Nat.le_succ _)⟩
        rw [Below.heap_setCell _ ⟨w.heap.size + 1, 4, none⟩ _ w.heap.size (by show w.heap.size ≠ w.heap.size + 1; omega)]
        exact HZ4.out
    case rest =>
      obtain ⟨hP6, hZ6, hB6⟩ := hcut
      have HP6 := hidIt hP6
      have HZ6 := hidIt hZ6
      have HB6 := hidIt hB6
      clear hP6 hZ6 hB6 HP5 HZ4 HB4 HO4
      go_upto_region 12 with (fail)
      go_cut [8, 52] from 9 (fun _ c wx => c = .bool (!premK s ws) ∧ wx.heap[w.heap.size + 1]? = some (.cells #[.bool (parsedNeg (atW ws 1)), .string (parsedName (atW ws 1)), .int .i64 (premKd ws), .int .i64 (premRk ws), .string (premSr ws)] 74 (0, 0)) ∧ wx.heap[w.heap.size]? = some (.cells #[.int .i64 0, .bool false, .string ⟨#[]⟩, .int .i64 0, .int .i64 0, .string ⟨#[]⟩, .string ⟨#[]⟩, .bool false, .int .i64 0, .slice none 0 0, .bool false, .string ⟨#[]⟩, .string ⟨#[]⟩, .int .i64 0, .bool false, .string ⟨#[]⟩] 88 (0, 0)) ∧ Below w.heap.size w wx)
      case first =>
        obtain ⟨x0, x1, x2, x3, x4⟩ := bcell5 HP6.out
        have lx := lt_of_block HP6.out
        cases ho : litOk (atW ws 1)
        · have hpe : parsedErr (atW ws 1) = 3 := by unfold parsedErr; rw [if_neg (by unfold litOk at ho; rw [ho]; decide)]
          have HN : Hid (premK s ws = false) := by show _ = _; unfold premK; rw [ho]; rfl
          rw [hpe]
          clear ho hpe
          go_wp2_with fail
          go_meet
          exact ⟨by rw [HN.out]; rfl, HP6.out, HZ6.out, HB6.out⟩
        have hpe : parsedErr (atW ws 1) = 0 := by unfold parsedErr; rw [if_pos (by unfold litOk at ho; exact ho)]
        rw [hpe]
        have HLO := hidIt ho
        clear ho hpe
        have HSZ : Hid ((premSr ws).size ≤ 100000) := by
          show _ ≤ _
          unfold premSr
          split
          · exact HAT.out _
          · exact Nat.zero_le _
        have HRI : Hid (I64 (premRk ws) ∧ I64 (premKd ws)) := by
          show _ ∧ _
          have hn : I64 (numW (atW ws 2)) := by
            have := numW_bd (atW ws 2)
            unfold I64; omega
          unfold premRk premKd
          refine ⟨?_, ?_⟩
          · split
            · exact hn
            · unfold I64; omega
          · split
            · unfold I64; omega
            · split <;> (unfold I64; omega)
        go_wp2_with fail
        refine (r5prem_any (premC ws) ⟨Nat.le_trans HN12.out (by unfold maxLen; omega), Nat.le_trans HSZ.out (by unfold maxLen; omega), HRI.out.2, HRI.out.1⟩ _).mono ?_
        rintro e w7 ⟨rfl, hb7⟩
        have HZ7 := hidIt (blk_kept2 HZ6.out hb7)
        have HP7 := hidIt (blk_kept2 HP6.out hb7)
        have HB7 := hidIt (HB6.out.trans (Below.mono hb7 HB6.out.size))
        clear hb7 x0 x1 x2 x3 x4 lx HP6 HZ6 HB6
        obtain ⟨x0, x1, x2, x3, x4⟩ := bcell5 HP7.out
        have lx := lt_of_block HP7.out
        by_cases hpr : premR (premC ws) = 0
        · rw [hpr]
          have HG := hidIt (premR_good hpr)
          have HPR := hidIt hpr
          clear hpr
          go_wp2_with fail
          refine (r5premLine_any (premC ws) (premRk ws).toNat (by have := HG.out.rank; have e : (premC ws).rank = premRk ws := rfl; omega) (by have := HG.out.rank; have e : (premC ws).rank = premRk ws := rfl; omega) (HG.out.src.elim (fun h => by omega) vn_le12) HN12.out HG.out.kind _).mono ?_
          rintro e w8 ⟨rfl, hb8⟩
          have HZ8 := hidIt (blk_kept2 HZ7.out hb8)
          have HP8 := hidIt (blk_kept2 HP7.out hb8)
          have HB8 := hidIt (HB7.out.trans (Below.mono hb8 HB7.out.size))
          clear hb8 x0 x1 x2 x3 x4 lx HP7 HZ7 HB7
          cases ht : ((premT (premC ws) (premRk ws).toNat).toList == s.toList)
          · have HN : Hid (premK s ws = false) := by show _ = _; unfold premK; rw [ht, HLO.out, decide_eq_true HPR.out]; rfl
            go_wp2_with fail
            go_meet
            exact ⟨by rw [HN.out]; rfl, HP8.out, HZ8.out, HB8.out⟩
          · have HY : Hid (premK s ws = true) := by show _ = _; unfold premK; rw [ht, HLO.out, decide_eq_true HPR.out]; rfl
            go_wp2_with fail
            go_meet
            exact ⟨by rw [HY.out]; rfl, HP8.out, HZ8.out, HB8.out⟩
        · have hne : (premR (premC ws) != 0) = true := bne_iff_ne.2 hpr
          have HN : Hid (premK s ws = false) := by show _ = _; unfold premK; rw [HLO.out, decide_eq_false hpr]; rfl
          clear hpr
          go_wp2_with fail
          go_meet
          exact ⟨by rw [HN.out]; rfl, HP7.out, HZ7.out, HB7.out⟩
      case rest =>
        obtain ⟨rfl, hP8, hZ8, hB8⟩ := hcut
        have HP8 := hidIt hP8
        have HZ8 := hidIt hZ8
        have HB8 := hidIt hB8
        clear hP8 hZ8 hB8 HP6 HZ6 HB6
        cases hpk : premK s ws
        · have HN : Hid (¬ premK s ws = true) := by show ¬ _; rw [hpk]; decide
          clear hpk
          obtain ⟨z0, z1, z2, z3, z4, z5, z6, z7, z8, z9, za, zb, zc, zd, ze, zf⟩ := bcell16 HZ8.out
          have f0 := free_any HZ8.out 0
          have f1 := free_any HZ8.out 1
          have f2 := free_any HZ8.out 2
          have f3 := free_any HZ8.out 3
          have f4 := free_any HZ8.out 4
          have f5 := free_any HZ8.out 5
          have f6 := free_any HZ8.out 6
          have f7 := free_any HZ8.out 7
          have f8 := free_any HZ8.out 8
          have f9 := free_any HZ8.out 9
          have f10 := free_any HZ8.out 10
          have f11 := free_any HZ8.out 11
          have f12 := free_any HZ8.out 12
          have f13 := free_any HZ8.out 13
          have f14 := free_any HZ8.out 14
          have f15 := free_any HZ8.out 15
          have lz := lt_of_block HZ8.out
          go_wp2_with fail
          obtain ⟨w9, hw9⟩ : ∃ x, x = ((((((((((((((((wc.setCell ⟨w.heap.size, 0, none⟩ (.int .i64 0)).setCell ⟨w.heap.size, 1, none⟩ (.bool false)).setCell ⟨w.heap.size, 2, none⟩ (.string ⟨#[]⟩)).setCell ⟨w.heap.size, 3, none⟩ (.int .i64 0)).setCell ⟨w.heap.size, 4, none⟩ (.int .i64 0)).setCell ⟨w.heap.size, 5, none⟩ (.string ⟨#[]⟩)).setCell ⟨w.heap.size, 6, none⟩ (.string ⟨#[]⟩)).setCell ⟨w.heap.size, 7, none⟩ (.bool false)).setCell ⟨w.heap.size, 8, none⟩ (.int .i64 0)).setCell ⟨w.heap.size, 9, none⟩ (.slice none 0 0)).setCell ⟨w.heap.size, 10, none⟩ (.bool false)).setCell ⟨w.heap.size, 11, none⟩ (.string ⟨#[]⟩)).setCell ⟨w.heap.size, 12, none⟩ (.string ⟨#[]⟩)).setCell ⟨w.heap.size, 13, none⟩ (.int .i64 0)).setCell ⟨w.heap.size, 14, none⟩ (.bool false)).setCell ⟨w.heap.size, 15, none⟩ (.string ⟨#[]⟩)) := ⟨_, rfl⟩
          rw [← hw9]
          have HF2 : Hid (w9.heap[w.heap.size]? = some (.cells #[.int .i64 0, .bool false, .string ⟨#[]⟩, .int .i64 0, .int .i64 0, .string ⟨#[]⟩, .string ⟨#[]⟩, .bool false, .int .i64 0, .slice none 0 0, .bool false, .string ⟨#[]⟩, .string ⟨#[]⟩, .int .i64 0, .bool false, .string ⟨#[]⟩] 88 (0, 0))) := by rw [hw9]; exact put16_heap HZ8.out (.int .i64 0) (.bool false) (.string ⟨#[]⟩) (.int .i64 0) (.int .i64 0) (.string ⟨#[]⟩) (.string ⟨#[]⟩) (.bool false) (.int .i64 0) (.slice none 0 0) (.bool false) (.string ⟨#[]⟩) (.string ⟨#[]⟩) (.int .i64 0) (.bool false) (.string ⟨#[]⟩)
          have HBF : Hid (Below w.heap.size w w9) := by rw [hw9]; exact put16_below HB8.out (Nat.le_refl _) (.int .i64 0) (.bool false) (.string ⟨#[]⟩) (.int .i64 0) (.int .i64 0) (.string ⟨#[]⟩) (.string ⟨#[]⟩) (.bool false) (.int .i64 0) (.slice none 0 0) (.bool false) (.string ⟨#[]⟩) (.string ⟨#[]⟩) (.int .i64 0) (.bool false) (.string ⟨#[]⟩)
          clear hw9 f0 f1 f2 f3 f4 f5 f6 f7 f8 f9 f10 f11 f12 f13 f14 f15 z0 z1 z2 z3 z4 z5 z6 z7 z8 z9 za zb zc zd ze zf lz
          obtain ⟨z0, z1, z2, z3, z4, z5, z6, z7, z8, z9, za, zb, zc, zd, ze, zf⟩ := bcell16 HF2.out
          have lz := lt_of_block HF2.out
          refine bodyPost_ret (v := .agg #[.int .i64 0, .bool false, .string ⟨#[]⟩, .int .i64 0, .int .i64 0, .string ⟨#[]⟩, .string ⟨#[]⟩, .bool false, .int .i64 0, .slice none 0 0, .bool false, .string ⟨#[]⟩, .string ⟨#[]⟩, .int .i64 0, .bool false, .string ⟨#[]⟩]) (by simp [results, Tryz.results104, go_sem, z0, z1, z2, z3, z4, z5, z6, z7, z8, z9, za, zb, zc, zd, ze, zf, lz]) rfl ?_
          exact ⟨by rw [← HR.out, if_neg HN.out]; rfl, HBF.out⟩
        · have HY : Hid (premK s ws = true) := hpk
          clear hpk
          obtain ⟨x0, x1, x2, x3, x4⟩ := bcell5 HP8.out
          have lx := lt_of_block HP8.out
          obtain ⟨z0, z1, z2, z3, z4, z5, z6, z7, z8, z9, za, zb, zc, zd, ze, zf⟩ := bcell16 HZ8.out
          have f0 := free_any HZ8.out 0
          have f1 := free_any HZ8.out 1
          have f2 := free_any HZ8.out 2
          have f3 := free_any HZ8.out 3
          have f4 := free_any HZ8.out 4
          have f5 := free_any HZ8.out 5
          have f6 := free_any HZ8.out 6
          have f7 := free_any HZ8.out 7
          have f8 := free_any HZ8.out 8
          have f9 := free_any HZ8.out 9
          have f10 := free_any HZ8.out 10
          have f11 := free_any HZ8.out 11
          have f12 := free_any HZ8.out 12
          have f13 := free_any HZ8.out 13
          have f14 := free_any HZ8.out 14
          have f15 := free_any HZ8.out 15
          have lz := lt_of_block HZ8.out
          go_wp2_with fail
          obtain ⟨w9, hw9⟩ : ∃ x, x = ((((((((((((((((wc.setCell ⟨w.heap.size, 0, none⟩ (.int .i64 1)).setCell ⟨w.heap.size, 1, none⟩ (.bool (parsedNeg (atW ws 1)))).setCell ⟨w.heap.size, 2, none⟩ (.string (parsedName (atW ws 1)))).setCell ⟨w.heap.size, 3, none⟩ (.int .i64 (premKd ws))).setCell ⟨w.heap.size, 4, none⟩ (.int .i64 (premRk ws))).setCell ⟨w.heap.size, 5, none⟩ (.string (premSr ws))).setCell ⟨w.heap.size, 6, none⟩ (.string ⟨#[]⟩)).setCell ⟨w.heap.size, 7, none⟩ (.bool false)).setCell ⟨w.heap.size, 8, none⟩ (.int .i64 0)).setCell ⟨w.heap.size, 9, none⟩ (.slice none 0 0)).setCell ⟨w.heap.size, 10, none⟩ (.bool false)).setCell ⟨w.heap.size, 11, none⟩ (.string ⟨#[]⟩)).setCell ⟨w.heap.size, 12, none⟩ (.string ⟨#[]⟩)).setCell ⟨w.heap.size, 13, none⟩ (.int .i64 0)).setCell ⟨w.heap.size, 14, none⟩ (.bool false)).setCell ⟨w.heap.size, 15, none⟩ (.string ⟨#[]⟩)) := ⟨_, rfl⟩
          rw [← hw9]
          have HF2 : Hid (w9.heap[w.heap.size]? = some (.cells #[.int .i64 1, .bool (parsedNeg (atW ws 1)), .string (parsedName (atW ws 1)), .int .i64 (premKd ws), .int .i64 (premRk ws), .string (premSr ws), .string ⟨#[]⟩, .bool false, .int .i64 0, .slice none 0 0, .bool false, .string ⟨#[]⟩, .string ⟨#[]⟩, .int .i64 0, .bool false, .string ⟨#[]⟩] 88 (0, 0))) := by rw [hw9]; exact put16_heap HZ8.out (.int .i64 1) (.bool (parsedNeg (atW ws 1))) (.string (parsedName (atW ws 1))) (.int .i64 (premKd ws)) (.int .i64 (premRk ws)) (.string (premSr ws)) (.string ⟨#[]⟩) (.bool false) (.int .i64 0) (.slice none 0 0) (.bool false) (.string ⟨#[]⟩) (.string ⟨#[]⟩) (.int .i64 0) (.bool false) (.string ⟨#[]⟩)
          have HBF : Hid (Below w.heap.size w w9) := by rw [hw9]; exact put16_below HB8.out (Nat.le_refl _) (.int .i64 1) (.bool (parsedNeg (atW ws 1))) (.string (parsedName (atW ws 1))) (.int .i64 (premKd ws)) (.int .i64 (premRk ws)) (.string (premSr ws)) (.string ⟨#[]⟩) (.bool false) (.int .i64 0) (.slice none 0 0) (.bool false) (.string ⟨#[]⟩) (.string ⟨#[]⟩) (.int .i64 0) (.bool false) (.string ⟨#[]⟩)
          clear hw9 f0 f1 f2 f3 f4 f5 f6 f7 f8 f9 f10 f11 f12 f13 f14 f15 z0 z1 z2 z3 z4 z5 z6 z7 z8 z9 za zb zc zd ze zf lz
          obtain ⟨z0, z1, z2, z3, z4, z5, z6, z7, z8, z9, za, zb, zc, zd, ze, zf⟩ := bcell16 HF2.out
          have lz := lt_of_block HF2.out
          refine bodyPost_ret (v := .agg #[.int .i64 1, .bool (parsedNeg (atW ws 1)), .string (parsedName (atW ws 1)), .int .i64 (premKd ws), .int .i64 (premRk ws), .string (premSr ws), .string ⟨#[]⟩, .bool false, .int .i64 0, .slice none 0 0, .bool false, .string ⟨#[]⟩, .string ⟨#[]⟩, .int .i64 0, .bool false, .string ⟨#[]⟩]) (by simp [results, Tryz.results104, go_sem, z0, z1, z2, z3, z4, z5, z6, z7, z8, z9, za, zb, zc, zd, ze, zf, lz]) rfl ?_
          exact ⟨by rw [← HR.out, if_pos HY.out]; rfl, HBF.out⟩
end Go.Proofs.YtfcoplplkbeljaaGreatDoor
