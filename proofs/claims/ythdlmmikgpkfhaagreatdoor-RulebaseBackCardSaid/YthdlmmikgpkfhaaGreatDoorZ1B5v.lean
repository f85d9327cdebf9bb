/- The reader's names, literals and ranks. -/
import Derived.Test.YthdlmmikgpkfhaaGreatDoorZ1B5u
import Derived.Test.YthdlmmikgpkfhaaGreatDoorShelf
import Derived.Test.YthdlmmikgpkfhaaGreatDoorZ1B5env

namespace Go.Proofs.YthdlmmikgpkfhaaGreatDoor
set_option linter.unusedVariables false
set_option linter.unusedSimpArgs false
open Go Go.RowKit

theorem trimT_any (s p : ByteArray) (hs : s.size ≤ maxLen) (w : World) : Calls Tryz.prog 195 #[.string s, .string p] w fun e w' => e = .returned (.string (trimT s p)) ∧ w' = w :=
  Tryz.strings_TrimSuffix s p w (by unfold maxLen at hs; omega)
theorem trimT_size (s p : ByteArray) : (trimT s p).size ≤ s.size := by
  show (Lib.trimSuffix s.data.toList p.data.toList).toArray.size ≤ s.data.size
  rw [List.size_toArray, ← Array.length_toList]
  unfold Lib.trimSuffix
  split
  · rw [List.length_take]; omega
  · exact Nat.le_refl _
/-- All words are of this length at most. -/
def WsOk (ws : List ByteArray) : Prop := ∀ x ∈ ws, x.size ≤ 4096
theorem WsOk.hd {ws : List ByteArray} (h : WsOk ws) : (hdW ws).size ≤ 4096 := by
  cases ws with
  | nil => exact Nat.zero_le _
  | cons x t => exact h x (by simp)
theorem WsOk.tail {ws : List ByteArray} (h : WsOk ws) : WsOk ws.tail := fun x hx => h x (List.mem_of_mem_tail hx)
theorem maxLen_of {n : Nat} (h : n ≤ 4096) : n ≤ maxLen := by unfold maxLen; omega

set_option maxHeartbeats 1000000 in
theorem rname_any (L R : Nat) (r : Rd) (sg : ByteArray) (w : World) (h : RdAt w L R r) (hw : WsOk r.ws) :
    Calls Tryz.prog 167 #[.pointer (some ⟨R, 0, none⟩), .string sg] w fun e w' => e = .returned (.string (rdName r sg).1) ∧ RdAt w' L R (rdName r sg).2 ∧ w.grownBy w' (some R) := by
  have H := hidIt h
  have hx : (trimT (hdW r.ws) sg).size ≤ 4096 := Nat.le_trans (trimT_size _ _) hw.hd
  have HW := hidIt hw
  have HE : Hid (rdName r sg = (trimT (hdW r.ws) sg, ⟨r.ws.tail, r.bad || !vn (trimT (hdW r.ws) sg)⟩)) := by show _ = _; rfl
  have HT : Hid (∀ wx : World, Calls Tryz.prog 195 #[.string (hdW r.ws), .string sg] wx fun e w' => e = .returned (.string (trimT (hdW r.ws) sg)) ∧ w' = wx) := fun wx => trimT_any _ _ (maxLen_of hw.hd) wx
  generalize rdName r sg = A at *
  generalize trimT (hdW r.ws) sg = x at *
  clear h hw
  go_enter Tryz.func167, Tryz.ntmps167
  go_wp2_with fail
  refine (word_any L R r _ H.out).mono ?_
  rintro e w1 ⟨rfl, hr1, hg1⟩
  have HR1 := hidIt hr1
  have HG1 := hidIt hg1
  clear hr1 hg1
  go_wp2_with fail
  refine (HT.out _).mono ?_
  rintro e w2 ⟨rfl, rfl⟩
  go_wp2_with fail
  refine (validName_any x _ (maxLen_of hx)).mono ?_
  rintro e w2 ⟨rfl, rfl⟩
  go_wp2_with fail
  refine (expect_any L R _ _ _ HR1.out).mono ?_
  rintro e w3 ⟨rfl, hr2, hg2⟩
  have HR2 := hidIt hr2
  have HG2 := hidIt (only_trans HG1.out hg2)
  clear hr2 hg2
  go_wp2_with fail
  go_ret
  rw [HE.out]
  exact ⟨rfl, HR2.out, HG2.out⟩

set_option maxHeartbeats 1000000 in
theorem rlit_any (L R : Nat) (r : Rd) (sg : ByteArray) (w : World) (h : RdAt w L R r) (hw : WsOk r.ws) :
    Calls Tryz.prog 169 #[.pointer (some ⟨R, 0, none⟩), .string sg] w fun e w' => e = .returned (.agg #[.bool (rdLit r sg).1.neg, .string (rdLit r sg).1.name]) ∧ RdAt w' L R (rdLit r sg).2 ∧ w.grownBy w' (some R) := by
  have hL := h.1
  have hx : (trimT (hdW r.ws) sg).size ≤ 4096 := Nat.le_trans (trimT_size _ _) hw.hd
  have HE : Hid (rdLit r sg = (litW (trimT (hdW r.ws) sg), ⟨r.ws.tail, r.bad || !litOk (trimT (hdW r.ws) sg)⟩)) := by show _ = _; rfl
  have HT : Hid (∀ wx : World, Calls Tryz.prog 195 #[.string (hdW r.ws), .string sg] wx fun e w' => e = .returned (.string (trimT (hdW r.ws) sg)) ∧ w' = wx) := fun wx => trimT_any _ _ (maxLen_of hw.hd) wx
  have HP : Hid (∀ wx : World, Calls Tryz.prog 197 #[.string (trimT (hdW r.ws) sg)] wx fun e w' => e = .returned (.tuple #[.agg #[.bool (litW (trimT (hdW r.ws) sg)).neg, .string (litW (trimT (hdW r.ws) sg)).name], .int .i64 (if litOk (trimT (hdW r.ws) sg) then 0 else 3)]) ∧ Below wx.heap.size wx w') := fun wx => parse_any _ wx (maxLen_of hx)
  generalize rdLit r sg = A at *
  generalize litW (trimT (hdW r.ws) sg) = y at *
  generalize litOk (trimT (hdW r.ws) sg) = g at *
  generalize trimT (hdW r.ws) sg = x at *
  obtain ⟨yn, ys⟩ := y
  have H := hidIt (h.alloc (.cells #[.bool false, .string ⟨#[]⟩] 28))
  have HG := hidIt (only_alloc (only_refl w (some R)) (.cells #[.bool false, .string ⟨#[]⟩] 28))
  have HK := hidIt (heap_alloc_new w (.cells #[.bool false, .string ⟨#[]⟩] 28))
  have hR := h.2.1
  clear h hw
  cases g
  all_goals
    go_enter Tryz.func169, Tryz.ntmps169
    go_wp2_with fail
    generalize (w.alloc (.cells #[.bool false, .string ⟨#[]⟩] 28)) = w0 at *
    refine (word_any L R r _ H.out).mono ?_
    rintro e w1 ⟨rfl, hr1, hg1⟩
    have HR1 := hidIt hr1
    have HG1 := hidIt (only_trans HG.out hg1)
    have HK1 : Hid (w1.heap[w.heap.size]? = _) := hidIt ((hg1.block w.heap.size (lt_of_block HK.out) (by simp; omega)).trans HK.out)
    clear hr1 hg1
    go_wp2_with fail
    refine (HT.out _).mono ?_
    rintro e w2 ⟨rfl, rfl⟩
    go_wp2_with fail
    refine (HP.out _).mono ?_
    rintro e w2 ⟨rfl, hb2⟩
    have HR2 := hidIt (HR1.out.go hb2)
    have HG2 := hidIt (only_trans HG1.out (only_of_below hb2 _))
    have HK2 := hidIt (blk_kept2 HK1.out hb2)
    clear hb2
    go_wp2_with fail
    have HKy := hidIt (heap_alloc_new w2 (.cells #[.bool yn, .string ys] 28))
    have HR3 := hidIt (HR2.out.alloc (.cells #[.bool yn, .string ys] 28))
    have HG3 := hidIt (only_alloc HG2.out (.cells #[.bool yn, .string ys] 28))
    have HK3 := hidIt (blk_kept2 HK2.out (bgrow w2 (.cells #[.bool yn, .string ys] 28)))
    have hL2 : L ≤ w2.heap.size := HR2.out.1
    have hww : w.heap.size < w2.heap.size := lt_of_block HK2.out
    generalize (w2.alloc (.cells #[.bool yn, .string ys] 28)) = w3 at *
    clear HR1 HG1 HK1 HR2 HG2 HK2 HK H HG
    refine (expect_any L R _ _ _ HR3.out).mono ?_
    rintro e w4 ⟨rfl, hr4, hg4⟩
    have hky := (hg4.block _ (lt_of_block HKy.out) (by simp; omega)).trans HKy.out
    have hk4 := (hg4.block _ (lt_of_block HK3.out) (by simp; omega)).trans HK3.out
    have HR4 := hidIt (hr4.setCell (p := ⟨w.heap.size, 0, none⟩) hL (.bool yn) |>.setCell (p := ⟨w.heap.size, 1, none⟩) hL (.string ys))
    have HG4 := hidIt (only_setCell (only_setCell (only_trans HG3.out hg4) (p := ⟨w.heap.size, 0, none⟩) (.inr (Nat.le_refl _)) (.bool yn)) (p := ⟨w.heap.size, 1, none⟩) (.inr (Nat.le_refl _)) (.string ys))
    have y0 := cell_two0 hky
    have y1 := cell_two1 hky
    have z0 := cell_two0 hk4
    have z1 := cell_two1 hk4
    have f0 := free_any hk4 0
    have f1 := free_any hk4 1
    clear hky hk4 hr4 hg4 HR3 HG3 HK3 HKy
    go_wp2_with fail
    refine bodyPost_ret (v := .agg #[.bool yn, .string ys]) (by simp [results, Tryz.results169, go_sem, z0, z1]) rfl ?_
    rw [HE.out]
    exact ⟨rfl, HR4.out, HG4.out⟩

/-- strconv.Atoi, at every word: the number and an error, or none. -/
theorem atoi_any (s : ByteArray) (hs : s.size ≤ 4096) (w : World) (hE : EnvOk w) :
    Calls Tryz.prog 196 #[.string s] w fun e w' => ∃ ev, e = .returned (.tuple #[.int .i64 (atoiV s), ev]) ∧ ((atoiOk s = true ∧ ev = .nilIface) ∨ (atoiOk s = false ∧ ∃ N : Nat, ev = .iface 246 (.pointer (some ⟨N, 0, none⟩)))) ∧ Below w.heap.size w w' := by
  obtain ⟨-, ⟨t5, p5, h5⟩, ⟨t6, p6, h6⟩, -, -⟩ := hE
  cases hA : Lib.atoiAll s.data.toList with
  | ok v =>
    have e1 : atoiV s = v := by unfold atoiV; rw [hA]
    have e2 : atoiOk s = true := by unfold atoiOk; rw [hA]
    rw [e1, e2]
    refine (Tryz.strconv_Atoi_ok s (by omega) v hA w).mono fun e w' ⟨he, hw⟩ => ⟨_, he, .inl ⟨rfl, rfl⟩, ?_⟩
    rcases hw with rfl | ⟨t, rfl⟩
    · exact Below.refl _ _
    · exact Lib.bytesWorld_below _ _ _
  | range =>
    have e1 : atoiV s = Lib.atoiSat s.data.toList := by unfold atoiV; rw [hA]
    have e2 : atoiOk s = false := by unfold atoiOk; rw [hA]
    rw [e1, e2]
    exact (Tryz.strconv_Atoi_range s (by omega) hA _ w h6 (.inr ⟨_, _, rfl⟩)).mono fun e w' ⟨N, he, _, _, hb⟩ => ⟨_, he, .inr ⟨rfl, N, rfl⟩, hb⟩
  | _ =>
    have e1 : atoiV s = 0 := by unfold atoiV; rw [hA]
    have e2 : atoiOk s = false := by unfold atoiOk; rw [hA]
    rw [e1, e2]
    exact (Tryz.strconv_Atoi_syntax s (by omega) hA _ w h5 (.inr ⟨_, _, rfl⟩)).mono fun e w' ⟨N, he, _, _, hb⟩ => ⟨_, he, .inr ⟨rfl, N, rfl⟩, hb⟩
theorem atoiV_i64 (s : ByteArray) : I64 (atoiV s) := by
  unfold I64 atoiV
  split
  · rename_i v h
    have := Lib.atoiAll_bounds h
    omega
  · have := Lib.atoiSat_bounds s.data.toList
    omega
  · omega

set_option maxHeartbeats 1000000 in
theorem rrank_any (B L R : Nat) (r : Rd) (sg : ByteArray) (w : World) (h : RdAt w L R r) (hw : WsOk r.ws) (hE : EnvUp B w) (hB : B ≤ R) :
    Calls Tryz.prog 168 #[.pointer (some ⟨R, 0, none⟩), .string sg] w fun e w' => e = .returned (.int .i64 (rdRank r sg).1) ∧ RdAt w' L R (rdRank r sg).2 ∧ w.grownBy w' (some R) := by
  have H := hidIt h
  have HEn := hidIt hE
  have hx : (trimT (hdW r.ws) sg).size ≤ 4096 := Nat.le_trans (trimT_size _ _) hw.hd
  have HE : Hid (rdRank r sg = (atoiV (trimT (hdW r.ws) sg), ⟨r.ws.tail, r.bad || !(atoiOk (trimT (hdW r.ws) sg) && rankB (atoiV (trimT (hdW r.ws) sg)) true)⟩)) := by show _ = _; rfl
  have HT : Hid (∀ wx : World, Calls Tryz.prog 195 #[.string (hdW r.ws), .string sg] wx fun e w' => e = .returned (.string (trimT (hdW r.ws) sg)) ∧ w' = wx) := fun wx => trimT_any _ _ (maxLen_of hw.hd) wx
  generalize rdRank r sg = A at *
  generalize trimT (hdW r.ws) sg = x at *
  have HV := hidIt (atoiV_i64 x)
  have HAT := hidIt (atoi_any x hx)
  generalize atoiV x = n at *
  generalize atoiOk x = ok at *
  clear h hw hE
  go_enter Tryz.func168, Tryz.ntmps168
  go_wp2_with fail
  refine (word_any L R r _ H.out).mono ?_
  rintro e w1 ⟨rfl, hr1, hg1⟩
  have HR1 := hidIt hr1
  have HG1 := hidIt hg1
  have HE1 := hidIt (HEn.out.kept hg1 (fun g e => by injection e with e; omega))
  clear hr1 hg1
  go_wp2_with fail
  refine (HT.out _).mono ?_
  rintro e w2 ⟨rfl, rfl⟩
  go_wp2_with fail
  refine (HAT.out _ HE1.out.ok).mono ?_
  rintro e w2 ⟨ev, rfl, hev, hb2⟩
  have HR2 := hidIt (HR1.out.go hb2)
  have HG2 := hidIt (only_trans HG1.out (only_of_below hb2 _))
  clear hb2 HR1 HG1 HE1 HEn
  rcases hev with ⟨rfl, rfl⟩ | ⟨rfl, N, rfl⟩
  · go_wp2_with fail
    refine (rankFits_any n true HV.out _).mono ?_
    rintro e w3 ⟨rfl, rfl⟩
    have HE3 : Hid (A = (n, ⟨r.ws.tail, r.bad || !rankB n true⟩)) := by show _ = _; rw [HE.out, Bool.true_and]
    generalize rankB n true = g at *
    clear HE
    go_wp2_with fail
    refine (expect_any L R _ _ _ HR2.out).mono ?_
    rintro e w4 ⟨rfl, hr4, hg4⟩
    have HR4 := hidIt hr4
    have HG4 := hidIt (only_trans HG2.out hg4)
    clear hr4 hg4
    go_wp2_with fail
    go_ret
    rw [HE3.out]
    exact ⟨rfl, HR4.out, HG4.out⟩
  · go_wp2_with fail
    refine (expect_any L R _ _ _ HR2.out).mono ?_
    rintro e w4 ⟨rfl, hr4, hg4⟩
    have HR4 := hidIt hr4
    have HG4 := hidIt (only_trans HG2.out hg4)
    clear hr4 hg4
    go_wp2_with fail
    go_ret
    rw [HE.out]
    exact ⟨rfl, HR4.out, HG4.out⟩
end Go.Proofs.YthdlmmikgpkfhaaGreatDoor
