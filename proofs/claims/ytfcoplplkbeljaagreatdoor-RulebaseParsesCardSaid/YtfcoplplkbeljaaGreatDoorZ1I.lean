/- The reader's names, literals and ranks. The reader's premises, promotions and rules; the kind of a word. The reader's promotions. -/
import Derived.Test.YtfcoplplkbeljaaGreatDoorZ1F
import Derived.Test.YtfcoplplkbeljaaGreatDoorShelf
import Derived.Test.YtfcoplplkbeljaaGreatDoorZ1B
import Derived.Test.YtfcoplplkbeljaaGreatDoorZ1D

namespace Go.Proofs.YtfcoplplkbeljaaGreatDoor
set_option linter.unusedVariables false
set_option linter.unusedSimpArgs false
open Go Go.RowKit

theorem trimT_any (s p : ByteArray) (hs : s.size ≤ maxLen) (w : World) : Calls Tryz.prog 172 #[.string s, .string p] w fun e w' => e = .returned (.string (trimT s p)) ∧ w' = w :=
  Tryz.strings_TrimSuffix s p w (by unfold maxLen at hs; omega)
theorem trimT_size (s p : ByteArray) : (trimT s p).size ≤ s.size := by
  show (Lib.trimSuffix s.data.toList p.data.toList).toArray.size ≤ s.data.size
  rw [List.size_toArray, ← Array.length_toList]
  unfold Lib.trimSuffix
  split
  · rw [List.length_take]; omega
  · exact Nat.le_refl _
/-- All words are of this length at most. -/
def WsOk (ws : List ByteArray) : Prop := ∀ x ∈ ws, x.size ≤ 4096
theorem WsOk.hd {ws : List ByteArray} (h : WsOk ws) : (hdW ws).size ≤ 4096 := by
  cases ws with
  | nil => exact Nat.zero_le _
  | cons x t => exact h x (by simp)
theorem WsOk.tail {ws : List ByteArray} (h : WsOk ws) : WsOk ws.tail := fun x hx => h x (List.mem_of_mem_tail hx)
theorem maxLen_of {n : Nat} (h : n ≤ 4096) : n ≤ maxLen := by unfold maxLen; omega

set_option maxHeartbeats 1000000 in
theorem rname_any (L R : Nat) (r : Rd) (sg : ByteArray) (w : World) (h : RdAt w L R r) (hw : WsOk r.ws) :
    Calls Tryz.prog 134 #[.pointer (some ⟨R, 0, none⟩), .string sg] w fun e w' => e = .returned (.string (rdName r sg).1) ∧ RdAt w' L R (rdName r sg).2 ∧ w.grownBy w' (some R) := by
  have H := hidIt h
  have hx : (trimT (hdW r.ws) sg).size ≤ 4096 := Nat.le_trans (trimT_size _ _) hw.hd
  have HW := hidIt hw
  have HE : Hid (rdName r sg = (trimT (hdW r.ws) sg, ⟨r.ws.tail, r.bad || !vn (trimT (hdW r.ws) sg)⟩)) := by show _ = _; rfl
  have HT : Hid (∀ wx : World, Calls Tryz.prog 172 #[.string (hdW r.ws), .string sg] wx fun e w' => e = .returned (.string (trimT (hdW r.ws) sg)) ∧ w' = wx) := fun wx => trimT_any _ _ (maxLen_of hw.hd) wx
  generalize rdName r sg = A at *
  generalize trimT (hdW r.ws) sg = x at *
  clear h hw
  go_enter Tryz.func134, Tryz.ntmps134
  go_wp2_with fail
  refine (word_any L R r _ H.out).mono ?_
  rintro e w1 ⟨rfl, hr1, hg1⟩
  have HR1 := hidIt hr1
  have HG1 := hidIt hg1
  clear hr1 hg1
  go_wp2_with fail
  refine (HT.out _).mono ?_
  rintro e w2 ⟨rfl, rfl⟩
  go_wp2_with fail
  refine (validName_any x _ (maxLen_of hx)).mono ?_
  rintro e w2 ⟨rfl, rfl⟩
  go_wp2_with fail
  refine (expect_any L R _ _ _ HR1.out).mono ?_
  rintro e w3 ⟨rfl, hr2, hg2⟩
  have HR2 := hidIt hr2
  have HG2 := hidIt (only_trans HG1.out hg2)
  clear hr2 hg2
  go_wp2_with fail
  go_ret
  rw [HE.out]
  exact ⟨rfl, HR2.out, HG2.out⟩

set_option maxHeartbeats 1000000 in
theorem rlit_any (L R : Nat) (r : Rd) (sg : ByteArray) (w : World) (h : RdAt w L R r) (hw : WsOk r.ws) :
    Calls Tryz.prog 136 #[.pointer (some ⟨R, 0, none⟩), .string sg] w fun e w' => e = .returned (.agg #[.bool (rdLit r sg).1.neg, .string (rdLit r sg).1.name]) ∧ RdAt w' L R (rdLit r sg).2 ∧ w.grownBy w' (some R) := by
  have hL := h.1
  have hx : (trimT (hdW r.ws) sg).size ≤ 4096 := Nat.le_trans (trimT_size _ _) hw.hd
  have HE : Hid (rdLit r sg = (litW (trimT (hdW r.ws) sg), ⟨r.ws.tail, r.bad || !litOk (trimT (hdW r.ws) sg)⟩)) := by show _ = _; rfl
  have HT : Hid (∀ wx : World, Calls Tryz.prog 172 #[.string (hdW r.ws), .string sg] wx fun e w' => e = .returned (.string (trimT (hdW r.ws) sg)) ∧ w' = wx) := fun wx => trimT_any _ _ (maxLen_of hw.hd) wx
  have HP : Hid (∀ wx : World, Calls Tryz.prog 174 #[.string (trimT (hdW r.ws) sg)] wx fun e w' => e = .returned (.tuple #[.agg #[.bool (litW (trimT (hdW r.ws) sg)).neg, .string (litW (trimT (hdW r.ws) sg)).name], .int .i64 (if litOk (trimT (hdW r.ws) sg) then 0 else 3)]) ∧ Below wx.heap.size wx w') := fun wx => parse_any _ wx (maxLen_of hx)
  generalize rdLit r sg = A at *
  generalize litW (trimT (hdW r.ws) sg) = y at *
  generalize litOk (trimT (hdW r.ws) sg) = g at *
  generalize trimT (hdW r.ws) sg = x at *
  obtain ⟨yn, ys⟩ := y
  have H := hidIt (h.alloc (.cells #[.bool false, .string ⟨#[]⟩] 46))
  have HG := hidIt (only_alloc (only_refl w (some R)) (.cells #[.bool false, .string ⟨#[]⟩] 46))
  have HK := hidIt (heap_alloc_new w (.cells #[.bool false, .string ⟨#[]⟩] 46))
  have hR := h.2.1
  clear h hw
  cases g
  all_goals
    go_enter Tryz.func136, Tryz.ntmps136
    go_wp2_with fail
    generalize (w.alloc (.cells #[.bool false, .string ⟨#[]⟩] 46)) = w0 at *
    refine (word_any L R r _ H.out).mono ?_
    rintro e w1 ⟨rfl, hr1, hg1⟩
    have HR1 := hidIt hr1
    have HG1 := hidIt (only_trans HG.out hg1)
    have HK1 : Hid (w1.heap[w.heap.size]? = _) := hidIt ((hg1.block w.heap.size (lt_of_block HK.out) (by simp; omega)).trans HK.out)
    clear hr1 hg1
    go_wp2_with fail
    refine (HT.out _).mono ?_
    rintro e w2 ⟨rfl, rfl⟩
    go_wp2_with fail
    refine (HP.out _).mono ?_
    rintro e w2 ⟨rfl, hb2⟩
    have HR2 := hidIt (HR1.out.go hb2)
    have HG2 := hidIt (only_trans HG1.out (only_of_below hb2 _))
    have HK2 := hidIt (blk_kept2 HK1.out hb2)
    clear hb2
    go_wp2_with fail
    have HKy := hidIt (heap_alloc_new w2 (.cells #[.bool yn, .string ys] 46))
    have HR3 := hidIt (HR2.out.alloc (.cells #[.bool yn, .string ys] 46))
    have HG3 := hidIt (only_alloc HG2.out (.cells #[.bool yn, .string ys] 46))
    have HK3 := hidIt (blk_kept2 HK2.out (bgrow w2 (.cells #[.bool yn, .string ys] 46)))
    have hL2 : L ≤ w2.heap.size := HR2.out.1
    have hww : w.heap.size < w2.heap.size := lt_of_block HK2.out
    generalize (w2.alloc (.cells #[.bool yn, .string ys] 46)) = w3 at *
    clear HR1 HG1 HK1 HR2 HG2 HK2 HK H HG
    refine (expect_any L R _ _ _ HR3.out).mono ?_
    rintro e w4 ⟨rfl, hr4, hg4⟩
    have hky := (hg4.block _ (lt_of_block HKy.out) (by simp; omega)).trans HKy.out
    have hk4 := (hg4.block _ (lt_of_block HK3.out) (by simp; omega)).trans HK3.out
    have HR4 := hidIt (hr4.setCell (p := ⟨w.heap.size, 0, none⟩) hL (.bool yn) |>.setCell (p := ⟨w.heap.size, 1, none⟩) hL (.string ys))
    have HG4 := hidIt (only_setCell (only_setCell (only_trans HG3.out hg4) (p := ⟨w.heap.size, 0, none⟩) (.inr (Nat.le_refl _)) (.bool yn)) (p := ⟨w.heap.size, 1, none⟩) (.inr (Nat.le_refl _)) (.string ys))
    have y0 := cell_two0 hky
    have y1 := cell_two1 hky
    have z0 := cell_two0 hk4
    have z1 := cell_two1 hk4
    have f0 := free_any hk4 0
    have f1 := free_any hk4 1
    clear hky hk4 hr4 hg4 HR3 HG3 HK3 HKy
    go_wp2_with fail
    refine bodyPost_ret (v := .agg #[.bool yn, .string ys]) (by simp [results, Tryz.results136, go_sem, z0, z1]) rfl ?_
    rw [HE.out]
    exact ⟨rfl, HR4.out, HG4.out⟩

/-- strconv.Atoi, at every word: the number and an error, or none. -/
theorem atoi_any (s : ByteArray) (hs : s.size ≤ 4096) (w : World) (hE : EnvOk w) :
    Calls Tryz.prog 173 #[.string s] w fun e w' => ∃ ev, e = .returned (.tuple #[.int .i64 (atoiV s), ev]) ∧ ((atoiOk s = true ∧ ev = .nilIface) ∨ (atoiOk s = false ∧ ∃ N : Nat, ev = .iface 234 (.pointer (some ⟨N, 0, none⟩)))) ∧ Below w.heap.size w w' := by
  obtain ⟨-, ⟨t5, p5, h5⟩, ⟨t6, p6, h6⟩, -, -⟩ := hE
  cases hA : Lib.atoiAll s.data.toList with
  | ok v =>
    have e1 : atoiV s = v := by unfold atoiV; rw [hA]
    have e2 : atoiOk s = true := by unfold atoiOk; rw [hA]
    rw [e1, e2]
    refine (Tryz.strconv_Atoi_ok s (by omega) v hA w).mono fun e w' ⟨he, hw⟩ => ⟨_, he, .inl ⟨rfl, rfl⟩, ?_⟩
    rcases hw with rfl | ⟨t, rfl⟩
    · exact Below.refl _ _
    · exact Lib.bytesWorld_below _ _ _
  | range =>
    have e1 : atoiV s = Lib.atoiSat s.data.toList := by unfold atoiV; rw [hA]
    have e2 : atoiOk s = false := by unfold atoiOk; rw [hA]
    rw [e1, e2]
    exact (Tryz.strconv_Atoi_range s (by omega) hA _ w h6 (.inr ⟨_, _, rfl⟩)).mono fun e w' ⟨N, he, _, _, hb⟩ => ⟨_, he, .inr ⟨rfl, N, rfl⟩, hb⟩
  | _ =>
    have e1 : atoiV s = 0 := by unfold atoiV; rw [hA]
    have e2 : atoiOk s = false := by unfold atoiOk; rw [hA]
    rw [e1, e2]
    exact (Tryz.strconv_Atoi_syntax s (by omega) hA _ w h5 (.inr ⟨_, _, rfl⟩)).mono fun e w' ⟨N, he, _, _, hb⟩ => ⟨_, he, .inr ⟨rfl, N, rfl⟩, hb⟩
theorem atoiV_i64 (s : ByteArray) : I64 (atoiV s) := by
  unfold I64 atoiV
  split
  · rename_i v h
    have := Lib.atoiAll_bounds h
    omega
  · have := Lib.atoiSat_bounds s.data.toList
    omega
  · omega

set_option maxHeartbeats 1000000 in
theorem rrank_any (B L R : Nat) (r : Rd) (sg : ByteArray) (w : World) (h : RdAt w L R r) (hw : WsOk r.ws) (hE : EnvUp B w) (hB : B ≤ R) :
    Calls Tryz.prog 135 #[.pointer (some ⟨R, 0, none⟩), .string sg] w fun e w' => e = .returned (.int .i64 (rdRank r sg).1) ∧ RdAt w' L R (rdRank r sg).2 ∧ w.grownBy w' (some R) := by
  have H := hidIt h
  have HEn := hidIt hE
  have hx : (trimT (hdW r.ws) sg).size ≤ 4096 := Nat.le_trans (trimT_size _ _) hw.hd
  have HE : Hid (rdRank r sg = (atoiV (trimT (hdW r.ws) sg), ⟨r.ws.tail, r.bad || !(atoiOk (trimT (hdW r.ws) sg) && rankB (atoiV (trimT (hdW r.ws) sg)) true)⟩)) := by show _ = _; rfl
  have HT : Hid (∀ wx : World, Calls Tryz.prog 172 #[.string (hdW r.ws), .string sg] wx fun e w' => e = .returned (.string (trimT (hdW r.ws) sg)) ∧ w' = wx) := fun wx => trimT_any _ _ (maxLen_of hw.hd) wx
  generalize rdRank r sg = A at *
  generalize trimT (hdW r.ws) sg = x at *
  have HV := hidIt (atoiV_i64 x)
  have HAT := hidIt (atoi_any x hx)
  generalize atoiV x = n at *
  generalize atoiOk x = ok at *
  clear h hw hE
  go_enter Tryz.func135, Tryz.ntmps135
  go_wp2_with fail
  refine (word_any L R r _ H.out).mono ?_
  rintro e w1 ⟨rfl, hr1, hg1⟩
  have HR1 := hidIt hr1
  have HG1 := hidIt hg1
  have HE1 := hidIt (HEn.out.kept hg1 (fun g e => by injection e with e; omega))
  clear hr1 hg1
  go_wp2_with fail
  refine (HT.out _).mono ?_
  rintro e w2 ⟨rfl, rfl⟩
  go_wp2_with fail
  refine (HAT.out _ HE1.out.ok).mono ?_
  rintro e w2 ⟨ev, rfl, hev, hb2⟩
  have HR2 := hidIt (HR1.out.go hb2)
  have HG2 := hidIt (only_trans HG1.out (only_of_below hb2 _))
  clear hb2 HR1 HG1 HE1 HEn
  rcases hev with ⟨rfl, rfl⟩ | ⟨rfl, N, rfl⟩
  · go_wp2_with fail
    refine (rankFits_any n true HV.out _).mono ?_
    rintro e w3 ⟨rfl, rfl⟩
    have HE3 : Hid (A = (n, ⟨r.ws.tail, r.bad || !rankB n true⟩)) := by show _ = _; rw [HE.out, Bool.true_and]
    generalize rankB n true = g at *
    clear HE
    go_wp2_with fail
    refine (expect_any L R _ _ _ HR2.out).mono ?_
    rintro e w4 ⟨rfl, hr4, hg4⟩
    have HR4 := hidIt hr4
    have HG4 := hidIt (only_trans HG2.out hg4)
    clear hr4 hg4
    go_wp2_with fail
    go_ret
    rw [HE3.out]
    exact ⟨rfl, HR4.out, HG4.out⟩
  · go_wp2_with fail
    refine (expect_any L R _ _ _ HR2.out).mono ?_
    rintro e w4 ⟨rfl, hr4, hg4⟩
    have HR4 := hidIt hr4
    have HG4 := hidIt (only_trans HG2.out hg4)
    clear hr4 hg4
    go_wp2_with fail
    go_ret
    rw [HE.out]
    exact ⟨rfl, HR4.out, HG4.out⟩
end Go.Proofs.YtfcoplplkbeljaaGreatDoor

namespace Go.Proofs.YtfcoplplkbeljaaGreatDoor
set_option linter.unusedVariables false
set_option linter.unusedSimpArgs false
open Go Go.RowKit

theorem keepB {w w' : World} {b R : Nat} {o : Obj} (hk : w.heap[b]? = some o) (hg : w.grownBy w' (some R)) (hne : b ≠ R) : w'.heap[b]? = some o := (hg.block b (lt_of_block hk) (by intro e; injection e with e; exact hne e)).trans hk
theorem keepS {w : World} {b : Nat} {o : Obj} {p : Addr} {u : Value} (hk : w.heap[b]? = some o) (hne : b ≠ p.block) : (w.setCell p u).heap[b]? = some o := (Below.heap_setCell w p u b hne).trans hk
theorem setB {w : World} {b i : Nat} {cs : Array Value} {t : TypeId} (u : Value) (h : w.heap[b]? = some (.cells cs t (0, 0))) : (w.setCell ⟨b, i, none⟩ u).heap[b]? = some (.cells (cs.setIfInBounds i u) t (0, 0)) := by
  have hlt := lt_of_block h
  have h' : w.heap[b] = .cells cs t (0, 0) := by simpa [Array.getElem?_eq_getElem hlt] using h
  show (w.heap.modify b _)[b]? = _
  rw [Array.getElem?_eq_getElem (by simpa using hlt), Array.getElem_modify_self, h']
  rfl
theorem RdAt.set (L R : Nat) {w : World} {r : Rd} {b i : Nat} {u : Value} (h : RdAt w L R r) (hb : L ≤ b) : RdAt (w.setCell ⟨b, i, none⟩ u) L R r := h.setCell (p := ⟨b, i, none⟩) hb u
theorem kcell {w : World} {b : Nat} {cs : Array Value} {t : TypeId} (h : w.heap[b]? = some (.cells cs t (0, 0))) (i : Nat) (hi : i < cs.size) : w.cell? ⟨b, i, none⟩ = some cs[i] := by simp [World.cell?, h, hi]
theorem only_self {a w : World} {R : Nat} (h : a.grownBy w (some R)) {b : Nat} (hb : a.heap.size ≤ b) (i : Nat) (u : Value) : a.grownBy (w.setCell ⟨b, i, none⟩ u) (some R) := only_setCell h (p := ⟨b, i, none⟩) (.inr hb) u
theorem RdAt.wss {w : World} {L R : Nat} {r : Rd} (h : RdAt w L R r) : r.ws.length ≤ maxLen := by
  obtain ⟨-, -, a, cap, hk, h2, h3, h4⟩ := h
  omega
theorem RdAt.look {w : World} {L R : Nat} {r : Rd} (h : RdAt w L R r) : ∃ (a : Option Addr) (cap : Nat), w.cell? ⟨R, 0, none⟩ = some (.slice a r.ws.length cap) ∧ w.cell? ⟨R, 1, none⟩ = some (.bool r.bad) := by
  obtain ⟨-, -, a, cap, hk, h2, h3, h4⟩ := h
  exact ⟨a, cap, cell_two0 hk, cell_two1 hk⟩

set_option maxRecDepth 100000 in
set_option maxHeartbeats 2000000 in
theorem rprem_any (B L R : Nat) (k : Int) (r : Rd) (w : World) (h : RdAt w L R r) (hw : WsOk r.ws) (hE : EnvUp B w) (hB : B ≤ R) :
    Calls Tryz.prog 98 #[.pointer (some ⟨R, 0, none⟩), .int .i64 k] w fun e w' => e = .returned (.agg #[.bool (rdPrem k r).1.lit.neg, .string (rdPrem k r).1.lit.name, .int .i64 (rdPrem k r).1.kind, .int .i64 (rdPrem k r).1.rank, .string (rdPrem k r).1.src]) ∧ RdAt w' L R (rdPrem k r).2 ∧ w.grownBy w' (some R) := by
  have hL := h.1
  have hR := h.2.1
  have HA1 : Hid (rdPrem k r = (⟨(rdPrem1 k r).1, k, (rdPrem2 k r).1, (rdPrem3 k r).1⟩, (rdPrem3 k r).2)) := by show _ = _; rfl
  have HA3 : Hid (rdPrem3 k r = if (rdPrem2 k r).2.ws.length = 0 then (nilT, (rdPrem2 k r).2) else rdName (rdWord (rdPrem2 k r).2) nilT) := by show _ = _; rfl
  have HA2 : Hid (rdPrem2 k r = if k = 2 then rdRank (rdPrem1 k r).2 nilT else (0, (rdPrem1 k r).2)) := by show _ = _; rfl
  have hw1 : WsOk (rdPrem1 k r).2.ws := hw.tail
  have HC1 : Hid (∀ wx : World, RdAt wx L R ⟨r.ws, r.bad || !(k != 0)⟩ → Calls Tryz.prog 136 #[.pointer (some ⟨R, 0, none⟩), .string ⟨#[]⟩] wx fun e w' => e = .returned (.agg #[.bool (rdPrem1 k r).1.neg, .string (rdPrem1 k r).1.name]) ∧ RdAt w' L R (rdPrem1 k r).2 ∧ wx.grownBy w' (some R)) := fun wx hx => rlit_any L R ⟨r.ws, r.bad || !(k != 0)⟩ nilT wx hx hw
  have hw2 : WsOk (rdPrem2 k r).2.ws := by
    rw [HA2.out]
    split
    · exact hw1.tail
    · exact hw1
  generalize rdPrem k r = A at *
  generalize rdPrem3 k r = A3 at *
  generalize rdPrem2 k r = A2 at *
  obtain ⟨rank, r2⟩ := A2
  have HC2 : Hid (k = 2 → ∀ wx : World, RdAt wx L R (rdPrem1 k r).2 → EnvUp B wx → Calls Tryz.prog 135 #[.pointer (some ⟨R, 0, none⟩), .string ⟨#[]⟩] wx fun e w' => e = .returned (.int .i64 rank) ∧ RdAt w' L R r2 ∧ wx.grownBy w' (some R)) := fun hk wx hx hE => by
    have := rrank_any B L R (rdPrem1 k r).2 nilT wx hx hw1 hE hB
    have e := HA2.out
    rw [if_pos hk] at e
    rw [← e] at this
    exact this
  have HC2n : Hid (k ≠ 2 → rank = 0 ∧ r2 = (rdPrem1 k r).2) := fun hk => by
    have e := HA2.out
    rw [if_neg hk] at e
    exact Prod.mk.inj e
  generalize rdPrem1 k r = A1 at *
  obtain ⟨⟨yn, ys⟩, r1⟩ := A1
  obtain ⟨src, r3⟩ := A3
  simp only at HC1 HC2 HC2n HA3 hw2
  clear HA2 hw1
  have HC4 : Hid (r2.ws.length ≠ 0 → ∀ wx : World, RdAt wx L R (rdWord r2) → Calls Tryz.prog 134 #[.pointer (some ⟨R, 0, none⟩), .string ⟨#[]⟩] wx fun e w' => e = .returned (.string src) ∧ RdAt w' L R r3 ∧ wx.grownBy w' (some R)) := fun hk wx hx => by
    have := rname_any L R (rdWord r2) nilT wx hx hw2.tail
    have e := HA3.out
    rw [if_neg hk] at e
    rw [← e] at this
    exact this
  have HC4n : Hid (r2.ws.length = 0 → src = ⟨#[]⟩ ∧ r3 = r2) := fun hk => by
    have e := HA3.out
    rw [if_pos hk] at e
    exact Prod.mk.inj e
  clear HA3 hw2
  have H := hidIt (h.alloc (.cells #[.bool false, .string ⟨#[]⟩, .int .i64 0, .int .i64 0, .string ⟨#[]⟩] 74))
  have HEn := hidIt (hE.kept (only_alloc (only_refl w none) (.cells #[.bool false, .string ⟨#[]⟩, .int .i64 0, .int .i64 0, .string ⟨#[]⟩] 74)) (fun g e => by cases e))
  have HG := hidIt (only_alloc (only_refl w (some R)) (.cells #[.bool false, .string ⟨#[]⟩, .int .i64 0, .int .i64 0, .string ⟨#[]⟩] 74))
  have HK := hidIt (heap_alloc_new w (.cells #[.bool false, .string ⟨#[]⟩, .int .i64 0, .int .i64 0, .string ⟨#[]⟩] 74))
  have hk0 : w.heap.size ≠ R := by omega
  clear h hw hE
  go_enter Tryz.func98, Tryz.ntmps98
  go_wp2_with fail
  generalize (w.alloc (.cells #[.bool false, .string ⟨#[]⟩, .int .i64 0, .int .i64 0, .string ⟨#[]⟩] 74)) = w0 at *
  refine (expect_any L R r (k != 0) _ H.out).mono ?_
  rintro e w1 ⟨rfl, hr1, hg1⟩
  have HR1 := hidIt hr1
  have HE1 := hidIt (HEn.out.kept hg1 (fun g e => by injection e with e; omega))
  have HG1 := hidIt (only_trans HG.out hg1)
  have HK1 := hidIt (keepB HK.out hg1 hk0)
  clear hr1 hg1 H HEn HG HK
  go_wp2_with fail
  refine (HC1.out _ HR1.out).mono ?_
  rintro e w2 ⟨rfl, hr2, hg2⟩
  have HR2 := hidIt hr2
  have HE2 := hidIt (HE1.out.kept hg2 (fun g e => by injection e with e; omega))
  have HG2 := hidIt (only_trans HG1.out hg2)
  have HK2 := hidIt (keepB HK1.out hg2 hk0)
  clear hr2 hg2 HR1 HE1 HG1 HK1
  have HP3 := hidIt (heap_alloc_new w2 (.cells #[.bool yn, .string ys, .int .i64 k, .int .i64 0, .string ⟨#[]⟩] 74))
  have HR3 := hidIt (HR2.out.alloc (.cells #[.bool yn, .string ys, .int .i64 k, .int .i64 0, .string ⟨#[]⟩] 74))
  have HE3 := hidIt (HE2.out.kept (only_alloc (only_refl w2 none) (.cells #[.bool yn, .string ys, .int .i64 k, .int .i64 0, .string ⟨#[]⟩] 74)) (fun g e => by cases e))
  have HG3 := hidIt (only_alloc HG2.out (.cells #[.bool yn, .string ys, .int .i64 k, .int .i64 0, .string ⟨#[]⟩] 74))
  have HK3 := hidIt (blk_kept2 HK2.out (bgrow w2 (.cells #[.bool yn, .string ys, .int .i64 k, .int .i64 0, .string ⟨#[]⟩] 74)))
  have hww : w.heap.size < w2.heap.size := lt_of_block HK2.out
  have hk1 : w2.heap.size ≠ R := by omega
  have hk2 : w.heap.size ≠ w2.heap.size := by omega
  clear HE2
  by_cases hkk : k = 2
  case pos =>
    have HC2' := hidIt (HC2.out hkk)
    subst hkk
    clear HC2 HC2n HR2 HK2 HG2
    go_wp2_with fail
    generalize (w2.alloc (.cells #[.bool yn, .string ys, .int .i64 2, .int .i64 0, .string ⟨#[]⟩] 74)) = w3 at *
    refine (HC2'.out _ HR3.out HE3.out).mono ?_
    rintro e w4 ⟨rfl, hr4, hg4⟩
    have hp4 := keepB HP3.out hg4 hk1
    have hk4 := keepB HK3.out hg4 hk0
    have HG4 := hidIt (only_trans HG3.out hg4)
    clear hg4 HR3 HE3 HG3 HK3 HP3
    obtain ⟨p0, p1, p2, p3, p4⟩ := bcell5 hp4
    obtain ⟨z0, z1, z2, z3, z4⟩ := bcell5 hk4
    have pf3 := free_any hp4 3
    have pf4 := free_any hp4 4
    have hl4 := lt_of_block hp4
    have zf0 := free_any hk4 0
    have zf1 := free_any hk4 1
    have zf2 := free_any hk4 2
    have zf3 := free_any hk4 3
    have zf4 := free_any hk4 4
    have hl0 := lt_of_block hk4
    have hlR := hr4.lt
    have hm4 := hr4.wss
    have HR4 := hidIt hr4
    have HP4 := hidIt hp4
    have HK4 := hidIt hk4
    obtain ⟨la, lc, c0, -⟩ := hr4.look
    clear hk4 hr4 hp4
    have hm5 : r2.ws.length ≤ 9223372036854775807 := by unfold maxLen at hm4; omega
    clear hm4
    by_cases hws : r2.ws.length = 0
    case pos =>
      obtain ⟨rfl, rfl⟩ := HC4n.out hws
      rw [hws] at c0
      go_wp2_with fail
      refine bodyPost_ret (v := .agg #[.bool yn, .string ys, .int .i64 2, .int .i64 rank, .string ⟨#[]⟩]) (by simp [results, Tryz.results98, go_sem, z0, z1, z2, z3, z4, hk2, p0, p1, p2, p3, p4, hl4, hl0]) rfl ?_
      rw [HA1.out]
      refine ⟨rfl, ?_, ?_⟩
      · repeat refine RdAt.set L R ?_ (by omega)
        exact HR4.out
      · repeat refine only_self ?_ (by omega) _ _
        exact HG4.out
    case neg =>
      have HN := hidIt (HC4.out hws)
      have hpos : (0 : Int) < (r2.ws.length : Int) := by omega
      clear HC4 HC4n hws
      go_wp2_with fail
      have HR5 := hidIt (HR4.out.setCell (p := ⟨w2.heap.size, 3, none⟩) (by show L ≤ w2.heap.size; omega) (.int .i64 rank))
      have HG5 := hidIt (only_self (HG4.out) (b := w2.heap.size) (by omega) 3 (.int .i64 rank))
      have HP5 : Hid ((w4.setCell ⟨w2.heap.size, 3, none⟩ (.int .i64 rank)).heap[w2.heap.size]? = some (.cells #[.bool yn, .string ys, .int .i64 2, .int .i64 rank, .string ⟨#[]⟩] 74 (0, 0))) := hidIt (setB (.int .i64 rank) HP4.out)
      have HK5 := hidIt (keepS (p := ⟨w2.heap.size, 3, none⟩) (u := .int .i64 rank) HK4.out hk2)
      clear HR4 HG4 HP4 HK4 p0 p1 p2 p3 p4 z0 z1 z2 z3 z4 pf3 pf4 zf0 zf1 zf2 zf3 zf4 c0 hl4 hl0 hlR
      generalize (w4.setCell ⟨w2.heap.size, 3, none⟩ (.int .i64 rank)) = w5 at *
      refine (word_any L R r2 _ HR5.out).mono ?_
      rintro e w6 ⟨rfl, hr6, hg6⟩
      have HR6 := hidIt hr6
      have HG6 := hidIt (only_trans HG5.out hg6)
      have HK6 := hidIt (keepB HK5.out hg6 hk0)
      have HP6 := hidIt (keepB HP5.out hg6 hk1)
      clear hr6 hg6 HR5 HG5 HK5 HP5
      go_wp2_with fail
      refine (HN.out _ HR6.out).mono ?_
      rintro e w7 ⟨rfl, hr7, hg7⟩
      have hp7 := keepB HP6.out hg7 hk1
      have hk7 := keepB HK6.out hg7 hk0
      have HR7 := hidIt hr7
      have HG7 := hidIt (only_trans HG6.out hg7)
      clear hr7 hg7 HR6 HG6 HK6 HP6
      obtain ⟨p0, p1, p2, p3, p4⟩ := bcell5 hp7
      obtain ⟨z0, z1, z2, z3, z4⟩ := bcell5 hk7
      have pf4 := free_any hp7 4
      have zf0 := free_any hk7 0
      have zf1 := free_any hk7 1
      have zf2 := free_any hk7 2
      have zf3 := free_any hk7 3
      have zf4 := free_any hk7 4
      have hl4 := lt_of_block hp7
      have hl0 := lt_of_block hk7
      clear hp7 hk7
      go_wp2_with fail
      refine bodyPost_ret (v := .agg #[.bool yn, .string ys, .int .i64 2, .int .i64 rank, .string src]) (by simp [results, Tryz.results98, go_sem, z0, z1, z2, z3, z4, hk2, p0, p1, p2, p3, p4, hl4, hl0]) rfl ?_
      rw [HA1.out]
      refine ⟨rfl, ?_, ?_⟩
      · repeat refine RdAt.set L R ?_ (by omega)
        exact HR7.out
      · repeat refine only_self ?_ (by omega) _ _
        exact HG7.out
  case neg =>
    obtain ⟨rfl, rfl⟩ := HC2n.out hkk
    clear HC2 HC2n
    have hr4 := HR2.out
    have hk4 := HK2.out
    clear HE3
    obtain ⟨z0, z1, z2, z3, z4⟩ := bcell5 hk4
    have zf0 := free_any hk4 0
    have zf1 := free_any hk4 1
    have zf2 := free_any hk4 2
    have zf3 := free_any hk4 3
    have zf4 := free_any hk4 4
    have hl0 := lt_of_block hk4
    have hlR := hr4.lt
    have hm4 := hr4.wss
    have HR4 := HR2
    have HG4 := HG2
    obtain ⟨la, lc, c0, -⟩ := hr4.look
    clear hk4 hr4
    have hm5 : r2.ws.length ≤ 9223372036854775807 := by unfold maxLen at hm4; omega
    clear hm4
    by_cases hws : r2.ws.length = 0
    case pos =>
      obtain ⟨rfl, rfl⟩ := HC4n.out hws
      rw [hws] at c0
      go_wp2_with fail
      refine bodyPost_ret (v := .agg #[.bool yn, .string ys, .int .i64 k, .int .i64 0, .string ⟨#[]⟩]) (by simp [results, Tryz.results98, go_sem, z0, z1, z2, z3, z4, hk2, hl0]) rfl ?_
      rw [HA1.out]
      refine ⟨rfl, ?_, ?_⟩
      · refine RdAt.alloc ?_ _
        repeat refine RdAt.set L R ?_ (by omega)
        exact HR4.out
      · refine only_alloc ?_ _
        repeat refine only_self ?_ (by omega) _ _
        exact HG4.out
    case neg =>
      have HN := hidIt (HC4.out hws)
      have hpos : (0 : Int) < (r2.ws.length : Int) := by omega
      clear HC4 HC4n hws
      go_wp2_with fail
      have HR5 := HR3
      have HG5 := HG3
      have HP5 := HP3
      have HK5 := HK3
      clear HR3 HG3 HP3 HK3 HR4 HG4 HR2 HG2 HK2 z0 z1 z2 z3 z4 zf0 zf1 zf2 zf3 zf4 c0 hl0 hlR
      generalize (w2.alloc (.cells #[.bool yn, .string ys, .int .i64 k, .int .i64 0, .string ⟨#[]⟩] 74)) = w5 at *
      refine (word_any L R r2 _ HR5.out).mono ?_
      rintro e w6 ⟨rfl, hr6, hg6⟩
      have HR6 := hidIt hr6
      have HG6 := hidIt (only_trans HG5.out hg6)
      have HK6 := hidIt (keepB HK5.out hg6 hk0)
      have HP6 := hidIt (keepB HP5.out hg6 hk1)
      clear hr6 hg6 HR5 HG5 HK5 HP5
      go_wp2_with fail
      refine (HN.out _ HR6.out).mono ?_
      rintro e w7 ⟨rfl, hr7, hg7⟩
      have hp7 := keepB HP6.out hg7 hk1
      have hk7 := keepB HK6.out hg7 hk0
      have HR7 := hidIt hr7
      have HG7 := hidIt (only_trans HG6.out hg7)
      clear hr7 hg7 HR6 HG6 HK6 HP6
      obtain ⟨p0, p1, p2, p3, p4⟩ := bcell5 hp7
      obtain ⟨z0, z1, z2, z3, z4⟩ := bcell5 hk7
      have pf4 := free_any hp7 4
      have zf0 := free_any hk7 0
      have zf1 := free_any hk7 1
      have zf2 := free_any hk7 2
      have zf3 := free_any hk7 3
      have zf4 := free_any hk7 4
      have hl4 := lt_of_block hp7
      have hl0 := lt_of_block hk7
      clear hp7 hk7
      go_wp2_with fail
      refine bodyPost_ret (v := .agg #[.bool yn, .string ys, .int .i64 k, .int .i64 0, .string src]) (by simp [results, Tryz.results98, go_sem, z0, z1, z2, z3, z4, hk2, p0, p1, p2, p3, p4, hl4, hl0]) rfl ?_
      rw [HA1.out]
      refine ⟨rfl, ?_, ?_⟩
      · repeat refine RdAt.set L R ?_ (by omega)
        exact HR7.out
      · repeat refine only_self ?_ (by omega) _ _
        exact HG7.out
end Go.Proofs.YtfcoplplkbeljaaGreatDoor

namespace Go.Proofs.YtfcoplplkbeljaaGreatDoor
set_option linter.unusedVariables false
set_option linter.unusedSimpArgs false
open Go Go.RowKit

set_option maxRecDepth 100000 in
set_option maxHeartbeats 2000000 in
theorem rprom_any (B L R : Nat) (r : Rd) (w : World) (h : RdAt w L R r) (hw : WsOk r.ws) (hE : EnvUp B w) (hB : B ≤ R) :
    Calls Tryz.prog 96 #[.pointer (some ⟨R, 0, none⟩)] w fun e w' => e = .returned (.agg #[.string (rdProm r).1.rule, .int .i64 (rdProm r).1.rank, .bool (rdProm r).1.lit.neg, .string (rdProm r).1.lit.name]) ∧ RdAt w' L R (rdProm r).2 ∧ w.grownBy w' (some R) := by
  have hL := h.1
  have hR := h.2.1
  have HA : Hid (rdProm r = (⟨(rdName r nilT).1, (rdProm1 r).1, (rdLit (rdWord (rdProm1 r).2) nilT).1⟩, (rdLit (rdWord (rdProm1 r).2) nilT).2)) := by show _ = _; rfl
  have hw1 : WsOk (rdName r nilT).2.ws := hw.tail
  have hw2 : WsOk (rdProm1 r).2.ws := hw1.tail
  have HC1 : Hid (∀ wx : World, RdAt wx L R r → Calls Tryz.prog 134 #[.pointer (some ⟨R, 0, none⟩), .string ⟨#[]⟩] wx fun e w' => e = .returned (.string (rdName r nilT).1) ∧ RdAt w' L R (rdName r nilT).2 ∧ wx.grownBy w' (some R)) := fun wx hx => rname_any L R r nilT wx hx hw
  have HC2 : Hid (∀ wx : World, RdAt wx L R (rdName r nilT).2 → EnvUp B wx → Calls Tryz.prog 135 #[.pointer (some ⟨R, 0, none⟩), .string ⟨#[]⟩] wx fun e w' => e = .returned (.int .i64 (rdProm1 r).1) ∧ RdAt w' L R (rdProm1 r).2 ∧ wx.grownBy w' (some R)) := fun wx hx hE => rrank_any B L R (rdName r nilT).2 nilT wx hx hw1 hE hB
  have HC3 : Hid (∀ wx : World, RdAt wx L R (rdWord (rdProm1 r).2) → Calls Tryz.prog 136 #[.pointer (some ⟨R, 0, none⟩), .string ⟨#[]⟩] wx fun e w' => e = .returned (.agg #[.bool (rdLit (rdWord (rdProm1 r).2) nilT).1.neg, .string (rdLit (rdWord (rdProm1 r).2) nilT).1.name]) ∧ RdAt w' L R (rdLit (rdWord (rdProm1 r).2) nilT).2 ∧ wx.grownBy w' (some R)) := fun wx hx => rlit_any L R (rdWord (rdProm1 r).2) nilT wx hx hw2.tail
  generalize rdProm r = A at *
  generalize rdLit (rdWord (rdProm1 r).2) nilT = A3 at *
  generalize rdProm1 r = A2 at *
  generalize rdName r nilT = A1 at *
  obtain ⟨⟨yn, ys⟩, r3⟩ := A3
  obtain ⟨rank, r2⟩ := A2
  obtain ⟨nm, r1⟩ := A1
  simp only at HC1 HC2 HC3 HA
  clear hw1 hw2
  have H := hidIt (h.alloc (.cells #[.string ⟨#[]⟩, .int .i64 0, .bool false, .string ⟨#[]⟩] 78))
  have HEn := hidIt (hE.kept (only_alloc (only_refl w none) (.cells #[.string ⟨#[]⟩, .int .i64 0, .bool false, .string ⟨#[]⟩] 78)) (fun g e => by cases e))
  have HG := hidIt (only_alloc (only_refl w (some R)) (.cells #[.string ⟨#[]⟩, .int .i64 0, .bool false, .string ⟨#[]⟩] 78))
  have HK := hidIt (heap_alloc_new w (.cells #[.string ⟨#[]⟩, .int .i64 0, .bool false, .string ⟨#[]⟩] 78))
  have hk0 : w.heap.size ≠ R := by omega
  clear h hw hE
  go_enter Tryz.func96, Tryz.ntmps96
  go_wp2_with fail
  generalize (w.alloc (.cells #[.string ⟨#[]⟩, .int .i64 0, .bool false, .string ⟨#[]⟩] 78)) = w0 at *
  refine (HC1.out _ H.out).mono ?_
  rintro e w2 ⟨rfl, hr2, hg2⟩
  have HR2 := hidIt hr2
  have HG2 := hidIt (only_trans HG.out hg2)
  have HE2 := hidIt (HEn.out.kept hg2 (fun g e => by injection e with e; omega))
  have HK2 := hidIt (keepB HK.out hg2 hk0)
  clear hr2 hg2 H HG HEn HK
  have HP3 := hidIt (heap_alloc_new w2 (.cells #[.string nm, .int .i64 0, .bool false, .string ⟨#[]⟩] 78))
  have HR3 := hidIt (HR2.out.alloc (.cells #[.string nm, .int .i64 0, .bool false, .string ⟨#[]⟩] 78))
  have HE3 := hidIt (HE2.out.kept (only_alloc (only_refl w2 none) (.cells #[.string nm, .int .i64 0, .bool false, .string ⟨#[]⟩] 78)) (fun g e => by cases e))
  have HG3 := hidIt (only_alloc HG2.out (.cells #[.string nm, .int .i64 0, .bool false, .string ⟨#[]⟩] 78))
  have HK3 := hidIt (blk_kept2 HK2.out (bgrow w2 (.cells #[.string nm, .int .i64 0, .bool false, .string ⟨#[]⟩] 78)))
  have hww : w.heap.size < w2.heap.size := lt_of_block HK2.out
  have hk1 : w2.heap.size ≠ R := by omega
  have hk2 : w.heap.size ≠ w2.heap.size := by omega
  clear HR2 HE2 HG2 HK2
  go_wp2_with fail
  generalize (w2.alloc (.cells #[.string nm, .int .i64 0, .bool false, .string ⟨#[]⟩] 78)) = w3 at *
  refine (HC2.out _ HR3.out HE3.out).mono ?_
  rintro e w4 ⟨rfl, hr4, hg4⟩
  have hp4 := keepB HP3.out hg4 hk1
  have pf1 := free_any hp4 1
  obtain ⟨p0, p1, p2, p3⟩ := bcell4 hp4
  have HR5 := hidIt (RdAt.set L R (b := w2.heap.size) (i := 1) (u := .int .i64 rank) hr4 (by omega))
  have HG5 := hidIt (only_self (only_trans HG3.out hg4) (b := w2.heap.size) (by omega) 1 (.int .i64 rank))
  have HK5 := hidIt (keepS (p := ⟨w2.heap.size, 1, none⟩) (u := .int .i64 rank) (keepB HK3.out hg4 hk0) hk2)
  have HP5 : Hid ((w4.setCell ⟨w2.heap.size, 1, none⟩ (.int .i64 rank)).heap[w2.heap.size]? = some (.cells #[.string nm, .int .i64 rank, .bool false, .string ⟨#[]⟩] 78 (0, 0))) := hidIt (setB (.int .i64 rank) hp4)
  clear hr4 hg4 hp4 HR3 HE3 HG3 HK3 HP3
  go_wp2_with fail
  clear p0 p1 p2 p3 pf1
  generalize (w4.setCell ⟨w2.heap.size, 1, none⟩ (.int .i64 rank)) = w5 at *
  refine (word_any L R r2 _ HR5.out).mono ?_
  rintro e w6 ⟨rfl, hr6, hg6⟩
  have HR6 := hidIt hr6
  have HG6 := hidIt (only_trans HG5.out hg6)
  have HK6 := hidIt (keepB HK5.out hg6 hk0)
  have HP6 := hidIt (keepB HP5.out hg6 hk1)
  clear hr6 hg6 HR5 HG5 HK5 HP5
  go_wp2_with fail
  refine (HC3.out _ HR6.out).mono ?_
  rintro e w7 ⟨rfl, hr7, hg7⟩
  have hp7 := keepB HP6.out hg7 hk1
  have hk7 := keepB HK6.out hg7 hk0
  have HR7 := hidIt hr7
  have HG7 := hidIt (only_trans HG6.out hg7)
  clear hr7 hg7 HR6 HG6 HK6 HP6
  obtain ⟨p0, p1, p2, p3⟩ := bcell4 hp7
  obtain ⟨z0, z1, z2, z3⟩ := bcell4 hk7
  have pf2 := free_any hp7 2
  have pf3 := free_any hp7 3
  have zf0 := free_any hk7 0
  have zf1 := free_any hk7 1
  have zf2 := free_any hk7 2
  have zf3 := free_any hk7 3
  have hl4 := lt_of_block hp7
  have hl0 := lt_of_block hk7
  clear hp7 hk7
  go_wp2_with fail
  refine bodyPost_ret (v := .agg #[.string nm, .int .i64 rank, .bool yn, .string ys]) (by simp [results, Tryz.results96, go_sem, z0, z1, z2, z3, hk2, p0, p1, p2, p3, hl4, hl0]) rfl ?_
  rw [HA.out]
  refine ⟨rfl, ?_, ?_⟩
  · repeat refine RdAt.set L R ?_ (by omega)
    exact HR7.out
  · repeat refine only_self ?_ (by omega) _ _
    exact HG7.out

end Go.Proofs.YtfcoplplkbeljaaGreatDoor
