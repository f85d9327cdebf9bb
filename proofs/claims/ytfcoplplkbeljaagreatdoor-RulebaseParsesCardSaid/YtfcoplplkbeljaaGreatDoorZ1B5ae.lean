/- One line added to a rule base: a premise. -/
import Derived.Test.YtfcoplplkbeljaaGreatDoorZ1K

namespace Go.Proofs.YtfcoplplkbeljaaGreatDoor
set_option linter.unusedVariables false
set_option linter.unusedSimpArgs false
open Go Go.RowKit

set_option maxRecDepth 100000 in
set_option maxHeartbeats 4000000 in
theorem addLine_prem (E B Rb : Nat) (b : Bs) (pv rv qv : Value) (line : ByteArray) (hline : line.size ≤ 4096) (w : World) (hb : BsIn w B Rb b pv rv qv) (hE : EnvUp E w) (hEB : E ≤ Rb) (hB : B ≤ w.heap.size) (hn1 : b.prems.length ≤ 5000) (hn2 : b.rules.length ≤ 5000) (hn3 : b.proms.length ≤ 5000)
    (hw1 : (isStrict (hdW (wordsOf line)) || isRule (hdW (wordsOf line))) = false) (hw2 : isPromote (hdW (wordsOf line)) = false) :
    Calls Tryz.prog 53 #[.pointer (some ⟨Rb, 0, none⟩), .string line] w fun e w' => e = .returned (.bool (addL b line).2) ∧ (∃ pv' rv' qv', BsIn w' B Rb (addL b line).1 pv' rv' qv') ∧ Below Rb w w' := by
  obtain ⟨ap, cp, rfl, hp1, hp2⟩ := shape_own hb.p
  obtain ⟨aq, cq, rfl, hq1, hq2⟩ := shape_own hb.q
  obtain ⟨ar, cr, rfl, hr1, hr2⟩ := (show ∃ (a : Option Addr) (c : Nat), rv = .slice a b.rules.length c ∧ b.rules.length ≤ c ∧ c ≤ maxLen by obtain ⟨bs, -, ho, -⟩ := hb.r; exact shape_own ho)
  have hRB := hb.lt
  obtain ⟨hwl, hwk⟩ := words_len line hline
  have HWK := hidIt hwk
  have HF : Hid (∀ wx : World, EnvOk wx → Calls Tryz.prog 92 #[.string line] wx fun e w' => ∃ A : Nat, e = .returned (.slice (some ⟨A, 0, none⟩) (wordsOf line).length (wordsOf line).length) ∧ A < w'.heap.size ∧ (∀ i (h : i < (wordsOf line).length), w'.cell? ⟨A, i, none⟩ = some (.string (wordsOf line)[i])) ∧ Below wx.heap.size wx w') := fun wx hx => fields5_any line hline wx hx
  have HADD : Hid (addL b line = addL2 b line (wordsOf line)) := by show _ = _; rfl
  generalize addL b line = RES at *
  generalize wordsOf line = ws at *
  have hADD : RES = addPm b line (rdPrem (kindT (hdW ws)) ⟨ws.tail, false⟩) := by
    rw [HADD.out]
    unfold addL2
    rw [if_neg (by rw [hw1]; decide), if_neg (by rw [hw2]; decide)]
  have HAD := hidIt hADD
  have HB := hidIt hb
  have HEn := hidIt hE
  have HE0 := hidIt hE
  have hEw := hE.le
  clear hwk hADD HADD hb hE
  go_enter Tryz.func53, Tryz.ntmps53
  go_wp2_with fail
  refine (HF.out _ HEn.out.ok).mono ?_
  rintro e w1 ⟨A, rfl, hA, hAc, hb1⟩
  have hs1 := hb1.size
  have HRd : Hid (RdAt (w1.alloc (.cells #[.slice (some ⟨A, 0, none⟩) ws.length ws.length, .bool false] 118)) (w1.heap.size + 1) w1.heap.size ⟨ws, false⟩) :=
    ⟨by simp, by omega, some ⟨A, 0, none⟩, ws.length, heap_alloc_new w1 _, Nat.le_refl _, by show ws.length ≤ maxLen; unfold maxLen; omega, fun i hi => ⟨A, 0, rfl, by omega, by omega, by rw [Nat.zero_add]; exact ((bgrow w1 _).cell (p := ⟨A, i, none⟩) hA).trans (hAc i hi)⟩⟩
  have HBel := hidIt (hb1.trans (Below.mono (bgrow w1 (.cells #[.slice (some ⟨A, 0, none⟩) ws.length ws.length, .bool false] 118)) hs1))
  have hsz1 := size_alloc w1 (.cells #[.slice (some ⟨A, 0, none⟩) ws.length ws.length, .bool false] 118)
  clear hAc hb1 HF
  go_wp2_with fail
  generalize (w1.alloc (.cells #[.slice (some ⟨A, 0, none⟩) ws.length ws.length, .bool false] 118)) = w2 at *
  generalize hR0 : w1.heap.size = R at *
  clear hR0 hA hsz1
  refine (word_any (R + 1) R ⟨ws, false⟩ _ HRd.out).mono ?_
  rintro e w3 ⟨rfl, hr3, hg3⟩
  have hws2 := HBel.out.size
  have HRd3 : Hid (RdAt w3 (R + 1) R ⟨ws.tail, false⟩) := hr3
  have HBel3 := hidIt (below_grown5 HBel.out hg3 hs1 hws2)
  have HE3 := hidIt (HEn.out.kept (only_of_below HBel3.out none) (fun g e => by cases e))
  clear hr3 hg3 HRd HBel HEn
  have HWT : Hid (WsOk ws.tail) := HWK.out.tail
  have hwt : ws.tail.length ≤ 5000 := by rw [List.length_tail]; omega
  have HFIT : Hid ((rdPrem (kindT (hdW ws)) ⟨ws.tail, false⟩).2.bad = false → _) := fun h => rdPrem_fit (s := hdW ws) (r := ⟨ws.tail, false⟩) h
  have HCALL : Hid (∀ wx, RdAt wx (R + 1) R ⟨ws.tail, false⟩ → EnvUp E wx → _) := fun wx h1 h2 => rprem_any E (R + 1) R (kindT (hdW ws)) ⟨ws.tail, false⟩ wx h1 HWT.out h2 (by have := HE3.out.le; omega)
  have HKO : Hid (∀ wx, WordsAt wx → Calls Tryz.prog 99 #[.string (hdW ws)] wx fun e w' => e = .returned (.int .i64 (kindT (hdW ws))) ∧ wx = w') := fun wx hx => kindOf_any (hdW ws) wx hx
  have HEK : Hid (EnvUp E w3) := HE3
  generalize rdPrem (kindT (hdW ws)) ⟨ws.tail, false⟩ = X at *
  generalize kindT (hdW ws) = kk at *
  obtain ⟨⟨⟨hg, hs⟩, kd, rk, sr⟩, r4⟩ := X
  simp only at HCALL HFIT
  generalize hdW ws = hd at *
  have hwa := or_false_l hw1
  have hwb := or_false_r hw1
  clear hw1
  unfold isStrict at hwa
  unfold isRule at hwb
  unfold isPromote at hw2
  go_wp2_with fail
  refine (HKO.out _ HEK.out.ok.words).mono ?_
  rintro e w3' ⟨rfl, rfl⟩
  clear HKO HEK
  go_wp2_with fail
  refine (HCALL.out _ HRd3.out HE3.out).mono ?_
  rintro e w4 ⟨rfl, hr4, hg4⟩
  have hs3 : w.heap.size ≤ w3.heap.size := HBel3.out.size
  have hbel4 := below_grown5 HBel3.out hg4 hs1 hs3
  have hs4 : w.heap.size ≤ w4.heap.size := hbel4.size
  obtain ⟨rws, rbad⟩ := r4
  obtain ⟨-, -, la, lc, hrk, -⟩ := hr4
  have HX5 := hidIt (heap_alloc_new w4 (.cells #[.bool hg, .string hs, .int .i64 kd, .int .i64 rk, .string sr] 74))
  have HRk5 := hidIt (blk_kept2 hrk (bgrow w4 (.cells #[.bool hg, .string hs, .int .i64 kd, .int .i64 rk, .string sr] 74)))
  have HBs5 := hidIt (HB.out.go (hbel4.trans (Below.mono (bgrow w4 (.cells #[.bool hg, .string hs, .int .i64 kd, .int .i64 rk, .string sr] 74)) hs4)))
  have HBel5 := hidIt (hbel4.trans (Below.mono (bgrow w4 (.cells #[.bool hg, .string hs, .int .i64 kd, .int .i64 rk, .string sr] 74)) hs4))

  clear hg4 hrk hbel4 HRd3 HE3 HBel3 HCALL
  go_wp2_with fail
  generalize (w4.alloc (.cells #[.bool hg, .string hs, .int .i64 kd, .int .i64 rk, .string sr] 74)) = w5 at *
  generalize w4.heap.size = P at *
  have hRlt : R < w5.heap.size := lt_of_block HRk5.out
  have hPlt : P < w5.heap.size := lt_of_block HX5.out
  have hRbw : Rb < w.heap.size := by omega
  have HBs6 := hidIt ((HBs5.out.go (Below.refl w5.heap.size w5).drew).go (bgrow w5.drew (.cells #[.bool hg, .string hs, .int .i64 kd, .int .i64 rk, .string sr] 74)))
  have HRk6 := hidIt (blk_kept2 (blk_kept2 HRk5.out (Below.refl w5.heap.size w5).drew) (bgrow w5.drew (.cells #[.bool hg, .string hs, .int .i64 kd, .int .i64 rk, .string sr] 74)))
  have HX6 := hidIt (blk_kept2 (blk_kept2 HX5.out (Below.refl w5.heap.size w5).drew) (bgrow w5.drew (.cells #[.bool hg, .string hs, .int .i64 kd, .int .i64 rk, .string sr] 74)))
  have hs5 : w.heap.size ≤ w5.heap.size := HBel5.out.size
  have hs6 : w.heap.size ≤ (w5.drew.alloc (.cells #[.bool hg, .string hs, .int .i64 kd, .int .i64 rk, .string sr] 74)).heap.size := by simp; omega
  have HBel6 := hidIt ((HBel5.out.trans (Below.mono (Below.refl w5.heap.size w5).drew hs5)).trans (Below.mono (bgrow w5.drew (.cells #[.bool hg, .string hs, .int .i64 kd, .int .i64 rk, .string sr] 74)) hs5))

  have HO6 : Hid (World.ownsRow _ _ _ _ _ _ _) := hidIt HBs6.out.p
  have HOB : Hid (∀ g, (Value.slice ap b.prems.length cp).ownBlock = some g → B ≤ g ∧ g < w.heap.size) := owns_blk HB.out.p
  obtain ⟨k0, k1, k2⟩ := bcell3 HBs5.out.box
  have XC := bcell5 HX5.out
  obtain ⟨x0, x1, x2, x3, x4⟩ := XC
  have hlb := lt_of_block HBs5.out.box
  clear HBs5 HBel5 HX5 HRk5
  go_region_law (first
    | (refine step_append_sb (by rfl) (.tmp 25) (.tmp 27) elemPm (by rfl) B (.slice ap b.prems.length cp) b.prems.length _ (by rfl) HO6.out _ 1 (by rfl) #[.bool hg, .string hs, .int .i64 kd, .int .i64 rk, .string sr] _ (heap_alloc_new _ _) rfl (one_of (by rfl)) (by omega) (by simp; omega) ?_
       intro g7 c7 w7 hown7 hg7 hbl7
       have hbox7 := (hg7.block Rb (lt_of_block HBs6.out.box) (fun e => by have := (HOB.out Rb e.symm).1; omega)).trans HBs6.out.box
       have k7 := (bcell3 hbox7).1
       have f7 := free_any hbox7 0
       have l7 := lt_of_block hbox7))
  all_goals
    have hrk7 := (hg7.block R (lt_of_block HRk6.out) (fun e => by have := (HOB.out R e.symm).2; omega)).trans HRk6.out
    have hx7 := (hg7.block P (lt_of_block HX6.out) (fun e => by have := (HOB.out P e.symm).2; omega)).trans HX6.out
    have HB8 := hidIt (HBs6.out.addP (p := ⟨⟨hg, hs⟩, kd, rk, sr⟩) hown7 hg7 hbl7)
    have HRk8 := hidIt (keepS (p := ⟨Rb, 0, none⟩) (u := .slice (some ⟨g7, 0, none⟩) (b.prems.length + 1) c7) hrk7 (by show R ≠ Rb; omega))
    have HX8 := hidIt (keepS (p := ⟨Rb, 0, none⟩) (u := .slice (some ⟨g7, 0, none⟩) (b.prems.length + 1) c7) hx7 (by show P ≠ Rb; omega))
    have HBel8 : Hid (Below Rb w (w7.setCell ⟨Rb, 0, none⟩ (.slice (some ⟨g7, 0, none⟩) (b.prems.length + 1) c7))) := hidIt (below_set5 (below_app5 (HBel6.out.mono (by omega)) hg7 (fun g e => by have := (HOB.out g e).1; omega) (by omega)) (Nat.le_refl _))
    have hs7 : w.heap.size ≤ w7.heap.size := Nat.le_trans hs6 hg7.size
    
    clear hown7 hg7 hbl7 hrk7 hx7 hbox7 HBs6 HRk6 HX6 HBel6 HO6 x0 x1 x2 x3 x4 k0 k1 k2
    have hs8 : w.heap.size ≤ (w7.setCell ⟨Rb, 0, none⟩ (.slice (some ⟨g7, 0, none⟩) (b.prems.length + 1) c7)).heap.size := by rw [size_setCell]; omega
    generalize (w7.setCell ⟨Rb, 0, none⟩ (.slice (some ⟨g7, 0, none⟩) (b.prems.length + 1) c7)) = w8 at *
    obtain ⟨b0, b1, b2⟩ := bcell3 HB8.out.box
    obtain ⟨r0, r1⟩ := (⟨cell_two0 HRk8.out, cell_two1 HRk8.out⟩ : _ ∧ _)
    have lr8 := lt_of_block HRk8.out
    have lb8 := lt_of_block HB8.out.box
    have lx8 := lt_of_block HX8.out
    obtain ⟨x0, x1, x2, x3, x4⟩ := bcell5 HX8.out
    have KR : ∀ wx, Ext w8 wx → wx.cell? ⟨R, 1, none⟩ = some (.bool rbad) := fun wx hC => ext_cell r1 lr8 hC
    have KB1 : ∀ wx, Ext w8 wx → wx.cell? ⟨Rb, 1, none⟩ = some (.slice ar b.rules.length cr) := fun wx hC => ext_cell b1 lb8 hC
    have KB2 : ∀ wx, Ext w8 wx → wx.cell? ⟨Rb, 2, none⟩ = some (.slice aq b.proms.length cq) := fun wx hC => ext_cell b2 lb8 hC
    have X0 : ∀ wx, Ext w8 wx → wx.cell? ⟨P, 0, none⟩ = some (.bool hg) := fun wx hC => ext_cell x0 lx8 hC
    have X1 : ∀ wx, Ext w8 wx → wx.cell? ⟨P, 1, none⟩ = some (.string hs) := fun wx hC => ext_cell x1 lx8 hC
    have X2 : ∀ wx, Ext w8 wx → wx.cell? ⟨P, 2, none⟩ = some (.int .i64 kd) := fun wx hC => ext_cell x2 lx8 hC
    have X3 : ∀ wx, Ext w8 wx → wx.cell? ⟨P, 3, none⟩ = some (.int .i64 rk) := fun wx hC => ext_cell x3 lx8 hC
    have X4 : ∀ wx, Ext w8 wx → wx.cell? ⟨P, 4, none⟩ = some (.string sr) := fun wx hC => ext_cell x4 lx8 hC
    clear b0 b1 b2 r0 r1 x0 x1 x2 x3 x4
    haveI : Nonempty (In (Ext w8)) := Ext.nonempty w8
    cases rbad
    case true =>
      have HRS : Hid (RES = (⟨b.prems ++ [⟨⟨hg, hs⟩, kd, rk, sr⟩], b.rules, b.proms⟩, false)) := by show _ = _; rw [HAD.out]; rfl
      clear HAD
      go_wp2_with fail
      refine wp_region_rel (Ext w8) Grows (relTab []) (by kernel_rfl) (by kernel_rfl) (by kernel_rfl) (stable_nil _) (Ext.start w8) ?_
      repeat (first
        | (refine walkR_skip (by rfl) ?_
           simp only [Act.put, List.setIfInBounds_toArray, List.set_cons_zero, List.set_cons_succ])
        | (refine' walkR_plain (by kernel_rfl) rfl rfl (fun wx hC hL => ?_) ?_
           rotate_left
           · (have hlw := Below.size hC
              have hlw1 := Nat.lt_of_lt_of_le lr8 hlw
              have hlw2 := Nat.lt_of_lt_of_le lb8 hlw
              have hlw3 := Nat.lt_of_lt_of_le lx8 hlw
              simp only [KR wx hC, KB1 wx hC, KB2 wx hC, X0 wx hC, X1 wx hC, X2 wx hC, X3 wx hC, X4 wx hC, hlw1, hlw2, hlw3, go_sem]; first | done | (go_simp; exact ⟨rfl, rfl⟩))
           simp only [Act.put, List.setIfInBounds_toArray, List.set_cons_zero, List.set_cons_succ]))
      refine fun w9 hC9 _ => ?_
      have HB9 := hidIt (HB8.out.go hC9)
      have HBel9 := hidIt (HBel8.out.trans (Below.mono hC9 (by omega)))
      clear hC9 KR KB1 KB2 X0 X1 X2 X3 X4
      go_wp2_with fail
      go_ret
      rw [HRS.out]
      refine ⟨ret_bool ?_, ⟨_, _, _, HB9.out⟩, HBel9.out⟩
      rfl
    case false =>
      have hfit := HFIT.out rfl
      have hf2 := hfit.2.1
      have HQ : Hid (rk = ((rk.toNat : Nat) : Int)) := (by simp only at hf2; omega : rk = ((rk.toNat : Nat) : Int))
      have HL : Hid (∀ wx, WordsAt wx → _) := fun wx hx => premLine_any ⟨⟨hg, hs⟩, kd, rk, sr⟩ rk.toNat (by simp only at hf2; omega) HQ.out hfit.2.2.1 hfit.2.2.2 hfit.1 wx hx
      have HRS : Hid (RES = (⟨b.prems ++ [⟨⟨hg, hs⟩, kd, rk, sr⟩], b.rules, b.proms⟩, true && (line.toList == (premT ⟨⟨hg, hs⟩, kd, rk, sr⟩ rk.toNat).toList) && decide (b.rules.length + b.proms.length = 0))) := by show _ = _; rw [HAD.out]; rfl
      clear HAD hfit HFIT hf2
      generalize premT ⟨⟨hg, hs⟩, kd, rk, sr⟩ rk.toNat = T at *
      have HW8 : Hid (WordsAt w8) := hidIt (HE0.out.go (HBel8.out.mono hEB)).ok.words
      have H1 : Hid (∀ wx, Ext w8 wx → Calls Tryz.prog 100 #[.agg #[.bool hg, .string hs, .int .i64 kd, .int .i64 rk, .string sr]] wx fun e w'' => ∃ u, e = .returned u ∧ Ext w8 w'' ∧ Grows wx w'' ∧ isV (.string T) u w'') := fun wx hC => rel_call hC ((HL.out wx (HW8.out.go hC)).mono fun e w'' ⟨he, hb⟩ => ⟨_, he, rfl, hb⟩)
      clear HL
      cases hq : (line.toList == T.toList)
      case false =>
        go_wp2_with fail
        refine wp_region_rel (Ext w8) Grows (relTab [(39, isV (.string T))]) (by kernel_rfl) (by kernel_rfl) (by kernel_rfl) (stable_cons (isV_up _) (stable_nil _)) (Ext.start w8) ?_
        repeat (first
          | (refine walkR_skip (by rfl) ?_
             simp only [Act.put, List.setIfInBounds_toArray, List.set_cons_zero, List.set_cons_succ])
          | (refine' walkR_plain (by kernel_rfl) rfl rfl (fun wx hC hL => ?_) ?_
             rotate_left
             · (have hlw := Below.size hC
                have hlw1 := Nat.lt_of_lt_of_le lr8 hlw
                have hlw2 := Nat.lt_of_lt_of_le lb8 hlw
                have hlw3 := Nat.lt_of_lt_of_le lx8 hlw
                simp only [KR wx hC, KB1 wx hC, KB2 wx hC, X0 wx hC, X1 wx hC, X2 wx hC, X3 wx hC, X4 wx hC, hlw1, hlw2, hlw3, go_sem]; first | done | (go_simp; exact ⟨rfl, rfl⟩))
             simp only [Act.put, List.setIfInBounds_toArray, List.set_cons_zero, List.set_cons_succ]))
        refine walkR_rel (by kernel_rfl) rfl rfl (of_decide_eq_true (by kernel_rfl)) (fun wx hC hL => ?_) (fun v hv => ?_)
        · go_simp
          exact H1.out wx hC
        obtain ⟨_, _, rfl⟩ := hv
        simp only [Act.put, List.setIfInBounds_toArray, List.set_cons_zero, List.set_cons_succ]
        repeat (first
          | (refine walkR_skip (by rfl) ?_
             simp only [Act.put, List.setIfInBounds_toArray, List.set_cons_zero, List.set_cons_succ])
          | (refine' walkR_plain (by kernel_rfl) rfl rfl (fun wx hC hL => ?_) ?_
             rotate_left
             · (have hlw := Below.size hC
                have hlw1 := Nat.lt_of_lt_of_le lr8 hlw
                have hlw2 := Nat.lt_of_lt_of_le lb8 hlw
                have hlw3 := Nat.lt_of_lt_of_le lx8 hlw
                simp only [KR wx hC, KB1 wx hC, KB2 wx hC, X0 wx hC, X1 wx hC, X2 wx hC, X3 wx hC, X4 wx hC, hlw1, hlw2, hlw3, hq, go_sem]; first | done | (go_simp; exact ⟨rfl, rfl⟩))
             simp only [Act.put, List.setIfInBounds_toArray, List.set_cons_zero, List.set_cons_succ]))
        refine fun w9 hC9 _ => ?_
        have HB9 := hidIt (HB8.out.go hC9)
        have HBel9 := hidIt (HBel8.out.trans (Below.mono hC9 (by omega)))
        clear hC9 KR KB1 KB2 X0 X1 X2 X3 X4
        go_wp2_with fail
        go_ret
        rw [HRS.out]
        refine ⟨ret_bool ?_, ⟨_, _, _, HB9.out⟩, HBel9.out⟩
        simp [hq]
      case true =>
        by_cases hz : b.rules.length + b.proms.length = 0
        case pos =>
          have hzI : IntKind.i64.wrap (((b.rules.length : Nat) : Int) + ((b.proms.length : Nat) : Int)) = 0 := by rw [IntKind.wrap_i64]; omega
          go_wp2_with fail
          refine wp_region_rel (Ext w8) Grows (relTab [(39, isV (.string T))]) (by kernel_rfl) (by kernel_rfl) (by kernel_rfl) (stable_cons (isV_up _) (stable_nil _)) (Ext.start w8) ?_
          repeat (first
            | (refine walkR_skip (by rfl) ?_
               simp only [Act.put, List.setIfInBounds_toArray, List.set_cons_zero, List.set_cons_succ])
            | (refine' walkR_plain (by kernel_rfl) rfl rfl (fun wx hC hL => ?_) ?_
               rotate_left
               · (have hlw := Below.size hC
                  have hlw1 := Nat.lt_of_lt_of_le lr8 hlw
                  have hlw2 := Nat.lt_of_lt_of_le lb8 hlw
                  have hlw3 := Nat.lt_of_lt_of_le lx8 hlw
                  simp only [KR wx hC, KB1 wx hC, KB2 wx hC, X0 wx hC, X1 wx hC, X2 wx hC, X3 wx hC, X4 wx hC, hlw1, hlw2, hlw3, go_sem]; first | done | (go_simp; exact ⟨rfl, rfl⟩))
               simp only [Act.put, List.setIfInBounds_toArray, List.set_cons_zero, List.set_cons_succ]))
          refine walkR_rel (by kernel_rfl) rfl rfl (of_decide_eq_true (by kernel_rfl)) (fun wx hC hL => ?_) (fun v hv => ?_)
          · go_simp
            exact H1.out wx hC
          obtain ⟨_, _, rfl⟩ := hv
          simp only [Act.put, List.setIfInBounds_toArray, List.set_cons_zero, List.set_cons_succ]
          repeat (first
            | (refine walkR_skip (by rfl) ?_
               simp only [Act.put, List.setIfInBounds_toArray, List.set_cons_zero, List.set_cons_succ])
            | (refine' walkR_plain (by kernel_rfl) rfl rfl (fun wx hC hL => ?_) ?_
               rotate_left
               · (have hlw := Below.size hC
                  have hlw1 := Nat.lt_of_lt_of_le lr8 hlw
                  have hlw2 := Nat.lt_of_lt_of_le lb8 hlw
                  have hlw3 := Nat.lt_of_lt_of_le lx8 hlw
                  simp only [KR wx hC, KB1 wx hC, KB2 wx hC, X0 wx hC, X1 wx hC, X2 wx hC, X3 wx hC, X4 wx hC, hlw1, hlw2, hlw3, hq, hzI, go_sem]; first | done | (go_simp; exact ⟨rfl, rfl⟩))
               simp only [Act.put, List.setIfInBounds_toArray, List.set_cons_zero, List.set_cons_succ]))
          refine fun w9 hC9 _ => ?_
          have HB9 := hidIt (HB8.out.go hC9)
          have HBel9 := hidIt (HBel8.out.trans (Below.mono hC9 (by omega)))
          clear hC9 KR KB1 KB2 X0 X1 X2 X3 X4
          go_wp2_with fail
          go_ret
          rw [HRS.out]
          refine ⟨ret_bool ?_, ⟨_, _, _, HB9.out⟩, HBel9.out⟩
          have e1 : b.rules.length = 0 := by omega
          have e2 : b.proms.length = 0 := by omega
          first | simp [hq, hz] | (rw [e1, e2]; rfl) | (simp [hq, hz, e1, e2]; done) | (rw [e1, e2]; simp; rw [IntKind.wrap_i64]; omega)
        case neg =>
          have hzI : (IntKind.i64.wrap (((b.rules.length : Nat) : Int) + ((b.proms.length : Nat) : Int)) == 0) = false := by rw [beq_eq_false_iff_ne, IntKind.wrap_i64]; omega
          go_wp2_with fail
          refine wp_region_rel (Ext w8) Grows (relTab [(39, isV (.string T))]) (by kernel_rfl) (by kernel_rfl) (by kernel_rfl) (stable_cons (isV_up _) (stable_nil _)) (Ext.start w8) ?_
          repeat (first
            | (refine walkR_skip (by rfl) ?_
               simp only [Act.put, List.setIfInBounds_toArray, List.set_cons_zero, List.set_cons_succ])
            | (refine' walkR_plain (by kernel_rfl) rfl rfl (fun wx hC hL => ?_) ?_
               rotate_left
               · (have hlw := Below.size hC
                  have hlw1 := Nat.lt_of_lt_of_le lr8 hlw
                  have hlw2 := Nat.lt_of_lt_of_le lb8 hlw
                  have hlw3 := Nat.lt_of_lt_of_le lx8 hlw
                  simp only [KR wx hC, KB1 wx hC, KB2 wx hC, X0 wx hC, X1 wx hC, X2 wx hC, X3 wx hC, X4 wx hC, hlw1, hlw2, hlw3, go_sem]; first | done | (go_simp; exact ⟨rfl, rfl⟩))
               simp only [Act.put, List.setIfInBounds_toArray, List.set_cons_zero, List.set_cons_succ]))
          refine walkR_rel (by kernel_rfl) rfl rfl (of_decide_eq_true (by kernel_rfl)) (fun wx hC hL => ?_) (fun v hv => ?_)
          · go_simp
            exact H1.out wx hC
          obtain ⟨_, _, rfl⟩ := hv
          simp only [Act.put, List.setIfInBounds_toArray, List.set_cons_zero, List.set_cons_succ]
          repeat (first
            | (refine walkR_skip (by rfl) ?_
               simp only [Act.put, List.setIfInBounds_toArray, List.set_cons_zero, List.set_cons_succ])
            | (refine' walkR_plain (by kernel_rfl) rfl rfl (fun wx hC hL => ?_) ?_
               rotate_left
               · (have hlw := Below.size hC
                  have hlw1 := Nat.lt_of_lt_of_le lr8 hlw
                  have hlw2 := Nat.lt_of_lt_of_le lb8 hlw
                  have hlw3 := Nat.lt_of_lt_of_le lx8 hlw
                  simp only [KR wx hC, KB1 wx hC, KB2 wx hC, X0 wx hC, X1 wx hC, X2 wx hC, X3 wx hC, X4 wx hC, hlw1, hlw2, hlw3, hq, hzI, go_sem]; first | done | (go_simp; exact ⟨rfl, rfl⟩))
               simp only [Act.put, List.setIfInBounds_toArray, List.set_cons_zero, List.set_cons_succ]))
          refine fun w9 hC9 _ => ?_
          have HB9 := hidIt (HB8.out.go hC9)
          have HBel9 := hidIt (HBel8.out.trans (Below.mono hC9 (by omega)))
          clear hC9 KR KB1 KB2 X0 X1 X2 X3 X4
          go_wp2_with fail
          go_ret
          rw [HRS.out]
          refine ⟨ret_bool ?_, ⟨_, _, _, HB9.out⟩, HBel9.out⟩
          first | (show false = (true && (line.toList == T.toList) && decide (b.rules.length + b.proms.length = 0)); rw [decide_eq_false hz, Bool.and_false]; done) | (simp [hq, hz]; done) | (rw [hzI]; simp [hq, hz]; done) | (rw [hzI]; have : decide (b.rules.length + b.proms.length = 0) = false := decide_eq_false hz; rw [this]; simp)

end Go.Proofs.YtfcoplplkbeljaaGreatDoor
