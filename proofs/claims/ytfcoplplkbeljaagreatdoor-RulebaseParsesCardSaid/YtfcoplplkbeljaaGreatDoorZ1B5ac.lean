/- One line added to a rule base: a rule. -/
import Derived.Test.YtfcoplplkbeljaaGreatDoorZ1K

namespace Go.Proofs.YtfcoplplkbeljaaGreatDoor
set_option linter.unusedVariables false
set_option linter.unusedSimpArgs false
open Go Go.RowKit

set_option maxRecDepth 100000 in
set_option maxHeartbeats 4000000 in
theorem addLine_rule (E B Rb : Nat) (b : Bs) (pv rv qv : Value) (line : ByteArray) (hline : line.size ≤ 4096) (w : World) (hb : BsIn w B Rb b pv rv qv) (hE : EnvUp E w) (hEB : E ≤ Rb) (hB : B ≤ w.heap.size) (hn1 : b.prems.length ≤ 5000) (hn2 : b.rules.length ≤ 5000) (hn3 : b.proms.length ≤ 5000)
    (st : Bool) (hw1 : isStrict (hdW (wordsOf line)) = st) (hw2 : (st || isRule (hdW (wordsOf line))) = true) :
    Calls Tryz.prog 53 #[.pointer (some ⟨Rb, 0, none⟩), .string line] w fun e w' => e = .returned (.bool (addL b line).2) ∧ (∃ pv' rv' qv', BsIn w' B Rb (addL b line).1 pv' rv' qv') ∧ Below Rb w w' := by
  obtain ⟨ap, cp, rfl, hp1, hp2⟩ := shape_own hb.p
  obtain ⟨aq, cq, rfl, hq1, hq2⟩ := shape_own hb.q
  obtain ⟨ar, cr, rfl, hr1, hr2⟩ := (show ∃ (a : Option Addr) (c : Nat), rv = .slice a b.rules.length c ∧ b.rules.length ≤ c ∧ c ≤ maxLen by obtain ⟨bs, -, ho, -⟩ := hb.r; exact shape_own ho)
  have hRB := hb.lt
  obtain ⟨hwl, hwk⟩ := words_len line hline
  have HWK := hidIt hwk
  have HF : Hid (∀ wx : World, EnvOk wx → Calls Tryz.prog 92 #[.string line] wx fun e w' => ∃ A : Nat, e = .returned (.slice (some ⟨A, 0, none⟩) (wordsOf line).length (wordsOf line).length) ∧ A < w'.heap.size ∧ (∀ i (h : i < (wordsOf line).length), w'.cell? ⟨A, i, none⟩ = some (.string (wordsOf line)[i])) ∧ Below wx.heap.size wx w') := fun wx hx => fields5_any line hline wx hx
  have HADD : Hid (addL b line = addL2 b line (wordsOf line)) := by show _ = _; rfl
  generalize addL b line = RES at *
  generalize wordsOf line = ws at *
  have hADD : RES = addRu b line st (rdRule st ⟨ws.tail, false⟩) := by
    rw [HADD.out]
    unfold addL2
    rw [hw1, if_pos hw2]
  have HAD := hidIt hADD
  have HB := hidIt hb
  have HEn := hidIt hE
  have hEw := hE.le
  clear hwk hADD HADD hb hE
  go_enter Tryz.func53, Tryz.ntmps53
  go_wp2_with fail
  refine (HF.out _ HEn.out.ok).mono ?_
  rintro e w1 ⟨A, rfl, hA, hAc, hb1⟩
  have hs1 := hb1.size
  have HRd : Hid (RdAt (w1.alloc (.cells #[.slice (some ⟨A, 0, none⟩) ws.length ws.length, .bool false] 118)) (w1.heap.size + 1) w1.heap.size ⟨ws, false⟩) :=
    ⟨by simp, by omega, some ⟨A, 0, none⟩, ws.length, heap_alloc_new w1 _, Nat.le_refl _, by show ws.length ≤ maxLen; unfold maxLen; omega, fun i hi => ⟨A, 0, rfl, by omega, by omega, by rw [Nat.zero_add]; exact ((bgrow w1 _).cell (p := ⟨A, i, none⟩) hA).trans (hAc i hi)⟩⟩
  have HBel := hidIt (hb1.trans (Below.mono (bgrow w1 (.cells #[.slice (some ⟨A, 0, none⟩) ws.length ws.length, .bool false] 118)) hs1))
  have hsz1 := size_alloc w1 (.cells #[.slice (some ⟨A, 0, none⟩) ws.length ws.length, .bool false] 118)
  clear hAc hb1 HF
  go_wp2_with fail
  generalize (w1.alloc (.cells #[.slice (some ⟨A, 0, none⟩) ws.length ws.length, .bool false] 118)) = w2 at *
  generalize hR0 : w1.heap.size = R at *
  clear hR0 hA hsz1
  refine (word_any (R + 1) R ⟨ws, false⟩ _ HRd.out).mono ?_
  rintro e w3 ⟨rfl, hr3, hg3⟩
  have hws2 := HBel.out.size
  have HRd3 : Hid (RdAt w3 (R + 1) R ⟨ws.tail, false⟩) := hr3
  have HBel3 := hidIt (below_grown5 HBel.out hg3 hs1 hws2)
  have HE3 := hidIt (HEn.out.kept (only_of_below HBel3.out none) (fun g e => by cases e))
  clear hr3 hg3 HRd HBel HEn
  have HWT : Hid (WsOk ws.tail) := HWK.out.tail
  have hwt : ws.tail.length ≤ 5000 := by rw [List.length_tail]; omega
  have HFIT : Hid ((rdRule st ⟨ws.tail, false⟩).2.bad = false → _) := fun h => rdRule_fit (st := st) (r := ⟨ws.tail, false⟩) hwt h
  have HCALL : Hid (∀ wx, RdAt wx (R + 1) R ⟨ws.tail, false⟩ → EnvUp E wx → _) := fun wx h1 h2 => rrule_any E (R + 1) R st ⟨ws.tail, false⟩ wx h1 HWT.out hwt h2 (by have := HE3.out.le; omega)
  generalize rdRule st ⟨ws.tail, false⟩ = X at *
  obtain ⟨⟨nm, sx, rk, bd, ⟨hg, hs⟩⟩, r4⟩ := X
  simp only at HCALL HFIT
  generalize hdW ws = hd at *
  unfold isStrict at hw1
  unfold isRule at hw2
  have HW2 := hidIt hw2
  clear hw2
  cases st
  case true =>
    go_wp2_with fail
    refine (HCALL.out _ HRd3.out HE3.out).mono ?_
    rintro e w4 ⟨a, n, c, rfl, hbody, hr4, hg4⟩
    have hnb := hbody.len
    subst hnb
    have hs3 : w.heap.size ≤ w3.heap.size := HBel3.out.size
    have hbel4 := below_grown5 HBel3.out hg4 hs1 hs3
    have hs4 : w.heap.size ≤ w4.heap.size := hbel4.size
    obtain ⟨rws, rbad⟩ := r4
    obtain ⟨-, -, la, lc, hrk, -⟩ := hr4
    have HX5 := hidIt (heap_alloc_new w4 (.cells #[.string nm, .bool sx, .int .i64 rk, .slice a bd.length c, .bool hg, .string hs] 64))
    have HRk5 := hidIt (blk_kept2 hrk (bgrow w4 (.cells #[.string nm, .bool sx, .int .i64 rk, .slice a bd.length c, .bool hg, .string hs] 64)))
    have HBs5 := hidIt (HB.out.go (hbel4.trans (Below.mono (bgrow w4 (.cells #[.string nm, .bool sx, .int .i64 rk, .slice a bd.length c, .bool hg, .string hs] 64)) hs4)))
    have HBel5 := hidIt (hbel4.trans (Below.mono (bgrow w4 (.cells #[.string nm, .bool sx, .int .i64 rk, .slice a bd.length c, .bool hg, .string hs] 64)) hs4))
    have HBODY5 := hidIt (hbody.kept (S' := fun k => w3.heap.size ≤ k) (fun k _ hk => (bgrow w4 (.cells #[.string nm, .bool sx, .int .i64 rk, .slice a bd.length c, .bool hg, .string hs] 64)).block k hk) (bgrow w4 _).size (fun k h _ => h))
    clear hg4 hrk hbody hbel4 HRd3 HE3 HBel3 HCALL
    go_wp2_with fail
    generalize (w4.alloc (.cells #[.string nm, .bool sx, .int .i64 rk, .slice a bd.length c, .bool hg, .string hs] 64)) = w5 at *
    generalize w4.heap.size = P at *
    have hRlt : R < w5.heap.size := lt_of_block HRk5.out
    have hPlt : P < w5.heap.size := lt_of_block HX5.out
    have hRbw : Rb < w.heap.size := by omega
    have HBs6 := hidIt ((HBs5.out.go (Below.refl w5.heap.size w5).drew).go (bgrow w5.drew (.cells #[.string nm, .bool sx, .int .i64 rk, .slice a bd.length c, .bool hg, .string hs] 64)))
    have HRk6 := hidIt (blk_kept2 (blk_kept2 HRk5.out (Below.refl w5.heap.size w5).drew) (bgrow w5.drew (.cells #[.string nm, .bool sx, .int .i64 rk, .slice a bd.length c, .bool hg, .string hs] 64)))
    have HX6 := hidIt (blk_kept2 (blk_kept2 HX5.out (Below.refl w5.heap.size w5).drew) (bgrow w5.drew (.cells #[.string nm, .bool sx, .int .i64 rk, .slice a bd.length c, .bool hg, .string hs] 64)))
    have hs5 : w.heap.size ≤ w5.heap.size := HBel5.out.size
    have hs6 : w.heap.size ≤ (w5.drew.alloc (.cells #[.string nm, .bool sx, .int .i64 rk, .slice a bd.length c, .bool hg, .string hs] 64)).heap.size := by simp; omega
    have HBel6 := hidIt ((HBel5.out.trans (Below.mono (Below.refl w5.heap.size w5).drew hs5)).trans (Below.mono (bgrow w5.drew (.cells #[.string nm, .bool sx, .int .i64 rk, .slice a bd.length c, .bool hg, .string hs] 64)) hs5))
    have HBODY6 := hidIt ((HBODY5.out.kept (S' := fun k => w3.heap.size ≤ k) (fun k _ hk => (Below.refl w5.heap.size w5).drew.block k hk) (Below.refl w5.heap.size w5).drew.size (fun k h _ => h)).kept (S' := fun k => w3.heap.size ≤ k) (fun k _ hk => (bgrow w5.drew (.cells #[.string nm, .bool sx, .int .i64 rk, .slice a bd.length c, .bool hg, .string hs] 64)).block k hk) (bgrow w5.drew _).size (fun k h _ => h))
    obtain ⟨bs, hbsl, ho, hf⟩ := HBs6.out.r
    have HO6 := hidIt ho
    have HF6 := hidIt hf
    have HOB : Hid (∀ g, (Value.slice ar b.rules.length cr).ownBlock = some g → B ≤ g ∧ g < w.heap.size) := HB.out.r.blk
    have HOP : Hid (∀ g, (Value.slice ap b.prems.length cp).ownBlock = some g → g < w.heap.size) := fun g e => (owns_blk HB.out.p g e).2
    have HOQ : Hid (∀ g, (Value.slice aq b.proms.length cq).ownBlock = some g → g < w.heap.size) := fun g e => (owns_blk HB.out.q g e).2
    clear ho hf
    obtain ⟨k0, k1, k2⟩ := bcell3 HBs5.out.box
    have XC := bcell6 HX5.out
    obtain ⟨x0, x1, x2, x3, x4, x5⟩ := XC
    have hlb := lt_of_block HBs5.out.box
    clear HBs5 HBel5 HX5 HRk5 HBODY5
    go_region_law (first
      | (refine step_append_sb (by rfl) (.tmp 67) (.tmp 69) elemRu (by rfl) B (.slice ar b.rules.length cr) b.rules.length _ (by rfl) HO6.out _ 1 (by rfl) #[.string nm, .bool sx, .int .i64 rk, .slice a bd.length c, .bool hg, .string hs] _ (heap_alloc_new _ _) rfl (one_of (by rfl)) (by omega) (by simp; omega) ?_
         intro g7 c7 w7 hown7 hg7 hbl7
         have hbox7 := (hg7.block Rb (lt_of_block HBs6.out.box) (fun e => by have := (HOB.out Rb e.symm).1; omega)).trans HBs6.out.box
         have k7 := (bcell3 hbox7).2.1
         have f7 := free_any hbox7 1
         have l7 := lt_of_block hbox7))
    all_goals
      have hrk7 := (hg7.block R (lt_of_block HRk6.out) (fun e => by have := (HOB.out R e.symm).2; omega)).trans HRk6.out
      have hx7 := (hg7.block P (lt_of_block HX6.out) (fun e => by have := (HOB.out P e.symm).2; omega)).trans HX6.out
      have HB8 := hidIt (HBs6.out.addR (r := ⟨nm, sx, rk, bd, ⟨hg, hs⟩⟩) (bv := .slice a bd.length c) hbsl HF6.out hown7 hg7 hbl7 (HBODY6.out.mono fun k hk => ⟨⟨by omega, fun e => by have := HOP.out k e; omega, fun e => by have := HOQ.out k e; omega⟩, fun e => by have := (HOB.out k e).2; omega⟩))
      have HRk8 := hidIt (keepS (p := ⟨Rb, 1, none⟩) (u := .slice (some ⟨g7, 0, none⟩) (b.rules.length + 1) c7) hrk7 (by show R ≠ Rb; omega))
      have HX8 := hidIt (keepS (p := ⟨Rb, 1, none⟩) (u := .slice (some ⟨g7, 0, none⟩) (b.rules.length + 1) c7) hx7 (by show P ≠ Rb; omega))
      have HBel8 : Hid (Below Rb w (w7.setCell ⟨Rb, 1, none⟩ (.slice (some ⟨g7, 0, none⟩) (b.rules.length + 1) c7))) := hidIt (below_set5 (below_app5 (HBel6.out.mono (by omega)) hg7 (fun g e => by have := (HOB.out g e).1; omega) (by omega)) (Nat.le_refl _))
      have hs7 : w.heap.size ≤ w7.heap.size := Nat.le_trans hs6 hg7.size
      have HBODY8 : Hid (BodyAt (w7.setCell ⟨Rb, 1, none⟩ (.slice (some ⟨g7, 0, none⟩) (b.rules.length + 1) c7)) (.slice a bd.length c) bd) := hidIt (BodyIn.at_ (S := fun k => w3.heap.size ≤ k) (HBODY6.out.kept (fun k hS hk => (Below.heap_setCell w7 ⟨Rb, 1, none⟩ _ k (by show k ≠ Rb; omega)).trans (hg7.block k hk (fun e => by have := (HOB.out k e.symm).2; omega))) (by rw [size_setCell]; exact hg7.size) (fun k h _ => h)))
      clear hown7 hg7 hbl7 hrk7 hx7 hbox7 HBs6 HRk6 HX6 HBel6 HBODY6 HO6 x0 x1 x2 x3 x4 x5 k0 k1 k2
      cases rbad
      case true =>
        obtain ⟨b0, b1, b2⟩ := bcell3 HB8.out.box
        obtain ⟨r0, r1⟩ := (⟨cell_two0 HRk8.out, cell_two1 HRk8.out⟩ : _ ∧ _)
        have lr8 := lt_of_block HRk8.out
        go_wp2_with fail
        go_ret
        rw [HAD.out]
        refine ⟨rfl, ⟨_, _, _, HB8.out⟩, HBel8.out⟩
      case false =>
        have hfit := HFIT.out rfl
        obtain ⟨b0, b1, b2⟩ := bcell3 HB8.out.box
        obtain ⟨r0, r1⟩ := (⟨cell_two0 HRk8.out, cell_two1 HRk8.out⟩ : _ ∧ _)
        have lr8 := lt_of_block HRk8.out
        have lb8 := lt_of_block HB8.out.box
        have lx8 := lt_of_block HX8.out
        have XC8 := bcell6 HX8.out
        obtain ⟨x0, x1, x2, x3, x4, x5⟩ := XC8
        have HQ : Hid (rk = ((rk.toNat : Nat) : Int)) := (by have := hfit.2.1; omega : rk = ((rk.toNat : Nat) : Int))
        have HL : Hid (∀ wx, BodyAt wx (.slice a bd.length c) bd → _) := fun wx hx => ruleLine_any ⟨nm, sx, rk, bd, ⟨hg, hs⟩⟩ rk.toNat (by have := hfit.2.1; omega) HQ.out hfit.1 hfit.2.2.1 hfit.2.2.2.1 hfit.2.2.2.2 a c wx hx
        clear hfit HFIT
        have HRS : Hid (RES = (⟨b.prems, b.rules ++ [⟨nm, sx, rk, bd, ⟨hg, hs⟩⟩], b.proms⟩, true && (line.toList == (ruleT ⟨nm, sx, rk, bd, ⟨hg, hs⟩⟩ rk.toNat).toList) && decide (b.proms.length = 0))) := by show _ = _; rw [HAD.out]; rfl
        clear HAD
        generalize ruleT ⟨nm, sx, rk, bd, ⟨hg, hs⟩⟩ rk.toNat = T at *
        go_wp2_with fail
        refine (HL.out _ HBODY8.out).mono ?_
        rintro e w9 ⟨rfl, hb9⟩
        have HB9 := hidIt (HB8.out.go hb9)
        have HBel9 := hidIt (HBel8.out.trans (Below.mono hb9 (by have := hs7; rw [size_setCell]; omega)))
        clear hb9 HB8 HBel8 HRk8 HX8 HL b0 b1 b2 r0 r1 lr8 lb8 lx8 x0 x1 x2 x3 x4 x5
        obtain ⟨b0, b1, b2⟩ := bcell3 HB9.out.box
        have lb9 := lt_of_block HB9.out.box
        cases hq : (line.toList == T.toList)
        case false =>
          go_wp2_with fail
          go_ret
          rw [HRS.out]
          refine ⟨ret_bool ?_, ⟨_, _, _, HB9.out⟩, HBel9.out⟩
          simp [hq]
        case true =>
          by_cases hz : b.proms.length = 0
          case pos =>
            have hzI : ((b.proms.length : Nat) : Int) = 0 := by omega
            go_wp2_with fail
            go_ret
            rw [HRS.out]
            refine ⟨ret_bool ?_, ⟨_, _, _, HB9.out⟩, HBel9.out⟩
            simp [hq, hz]
          case neg =>
            have hzI : ((b.proms.length : Nat) : Int) ≠ 0 := by omega
            go_wp2_with fail
            go_ret
            rw [HRS.out]
            refine ⟨ret_bool ?_, ⟨_, _, _, HB9.out⟩, HBel9.out⟩
            simp [hq, hz]
  case false =>
    have HW3 : Hid ((hd.toList == [114, 117, 108, 101]) = true) := by show _ = _; simpa using HW2.out
    have hw3 := HW3.out
    go_wp2_with fail
    refine (HCALL.out _ HRd3.out HE3.out).mono ?_
    rintro e w4 ⟨a, n, c, rfl, hbody, hr4, hg4⟩
    have hnb := hbody.len
    subst hnb
    have hs3 : w.heap.size ≤ w3.heap.size := HBel3.out.size
    have hbel4 := below_grown5 HBel3.out hg4 hs1 hs3
    have hs4 : w.heap.size ≤ w4.heap.size := hbel4.size
    obtain ⟨rws, rbad⟩ := r4
    obtain ⟨-, -, la, lc, hrk, -⟩ := hr4
    have HX5 := hidIt (heap_alloc_new w4 (.cells #[.string nm, .bool sx, .int .i64 rk, .slice a bd.length c, .bool hg, .string hs] 64))
    have HRk5 := hidIt (blk_kept2 hrk (bgrow w4 (.cells #[.string nm, .bool sx, .int .i64 rk, .slice a bd.length c, .bool hg, .string hs] 64)))
    have HBs5 := hidIt (HB.out.go (hbel4.trans (Below.mono (bgrow w4 (.cells #[.string nm, .bool sx, .int .i64 rk, .slice a bd.length c, .bool hg, .string hs] 64)) hs4)))
    have HBel5 := hidIt (hbel4.trans (Below.mono (bgrow w4 (.cells #[.string nm, .bool sx, .int .i64 rk, .slice a bd.length c, .bool hg, .string hs] 64)) hs4))
    have HBODY5 := hidIt (hbody.kept (S' := fun k => w3.heap.size ≤ k) (fun k _ hk => (bgrow w4 (.cells #[.string nm, .bool sx, .int .i64 rk, .slice a bd.length c, .bool hg, .string hs] 64)).block k hk) (bgrow w4 _).size (fun k h _ => h))
    clear hg4 hrk hbody hbel4 HRd3 HE3 HBel3 HCALL
    go_wp2_with fail
    generalize (w4.alloc (.cells #[.string nm, .bool sx, .int .i64 rk, .slice a bd.length c, .bool hg, .string hs] 64)) = w5 at *
    generalize w4.heap.size = P at *
    have hRlt : R < w5.heap.size := lt_of_block HRk5.out
    have hPlt : P < w5.heap.size := lt_of_block HX5.out
    have hRbw : Rb < w.heap.size := by omega
    have HBs6 := hidIt ((HBs5.out.go (Below.refl w5.heap.size w5).drew).go (bgrow w5.drew (.cells #[.string nm, .bool sx, .int .i64 rk, .slice a bd.length c, .bool hg, .string hs] 64)))
    have HRk6 := hidIt (blk_kept2 (blk_kept2 HRk5.out (Below.refl w5.heap.size w5).drew) (bgrow w5.drew (.cells #[.string nm, .bool sx, .int .i64 rk, .slice a bd.length c, .bool hg, .string hs] 64)))
    have HX6 := hidIt (blk_kept2 (blk_kept2 HX5.out (Below.refl w5.heap.size w5).drew) (bgrow w5.drew (.cells #[.string nm, .bool sx, .int .i64 rk, .slice a bd.length c, .bool hg, .string hs] 64)))
    have hs5 : w.heap.size ≤ w5.heap.size := HBel5.out.size
    have hs6 : w.heap.size ≤ (w5.drew.alloc (.cells #[.string nm, .bool sx, .int .i64 rk, .slice a bd.length c, .bool hg, .string hs] 64)).heap.size := by simp; omega
    have HBel6 := hidIt ((HBel5.out.trans (Below.mono (Below.refl w5.heap.size w5).drew hs5)).trans (Below.mono (bgrow w5.drew (.cells #[.string nm, .bool sx, .int .i64 rk, .slice a bd.length c, .bool hg, .string hs] 64)) hs5))
    have HBODY6 := hidIt ((HBODY5.out.kept (S' := fun k => w3.heap.size ≤ k) (fun k _ hk => (Below.refl w5.heap.size w5).drew.block k hk) (Below.refl w5.heap.size w5).drew.size (fun k h _ => h)).kept (S' := fun k => w3.heap.size ≤ k) (fun k _ hk => (bgrow w5.drew (.cells #[.string nm, .bool sx, .int .i64 rk, .slice a bd.length c, .bool hg, .string hs] 64)).block k hk) (bgrow w5.drew _).size (fun k h _ => h))
    obtain ⟨bs, hbsl, ho, hf⟩ := HBs6.out.r
    have HO6 := hidIt ho
    have HF6 := hidIt hf
    have HOB : Hid (∀ g, (Value.slice ar b.rules.length cr).ownBlock = some g → B ≤ g ∧ g < w.heap.size) := HB.out.r.blk
    have HOP : Hid (∀ g, (Value.slice ap b.prems.length cp).ownBlock = some g → g < w.heap.size) := fun g e => (owns_blk HB.out.p g e).2
    have HOQ : Hid (∀ g, (Value.slice aq b.proms.length cq).ownBlock = some g → g < w.heap.size) := fun g e => (owns_blk HB.out.q g e).2
    clear ho hf
    obtain ⟨k0, k1, k2⟩ := bcell3 HBs5.out.box
    have XC := bcell6 HX5.out
    obtain ⟨x0, x1, x2, x3, x4, x5⟩ := XC
    have hlb := lt_of_block HBs5.out.box
    clear HBs5 HBel5 HX5 HRk5 HBODY5
    go_region_law (first
      | (refine step_append_sb (by rfl) (.tmp 67) (.tmp 69) elemRu (by rfl) B (.slice ar b.rules.length cr) b.rules.length _ (by rfl) HO6.out _ 1 (by rfl) #[.string nm, .bool sx, .int .i64 rk, .slice a bd.length c, .bool hg, .string hs] _ (heap_alloc_new _ _) rfl (one_of (by rfl)) (by omega) (by simp; omega) ?_
         intro g7 c7 w7 hown7 hg7 hbl7
         have hbox7 := (hg7.block Rb (lt_of_block HBs6.out.box) (fun e => by have := (HOB.out Rb e.symm).1; omega)).trans HBs6.out.box
         have k7 := (bcell3 hbox7).2.1
         have f7 := free_any hbox7 1
         have l7 := lt_of_block hbox7))
    all_goals
      have hrk7 := (hg7.block R (lt_of_block HRk6.out) (fun e => by have := (HOB.out R e.symm).2; omega)).trans HRk6.out
      have hx7 := (hg7.block P (lt_of_block HX6.out) (fun e => by have := (HOB.out P e.symm).2; omega)).trans HX6.out
      have HB8 := hidIt (HBs6.out.addR (r := ⟨nm, sx, rk, bd, ⟨hg, hs⟩⟩) (bv := .slice a bd.length c) hbsl HF6.out hown7 hg7 hbl7 (HBODY6.out.mono fun k hk => ⟨⟨by omega, fun e => by have := HOP.out k e; omega, fun e => by have := HOQ.out k e; omega⟩, fun e => by have := (HOB.out k e).2; omega⟩))
      have HRk8 := hidIt (keepS (p := ⟨Rb, 1, none⟩) (u := .slice (some ⟨g7, 0, none⟩) (b.rules.length + 1) c7) hrk7 (by show R ≠ Rb; omega))
      have HX8 := hidIt (keepS (p := ⟨Rb, 1, none⟩) (u := .slice (some ⟨g7, 0, none⟩) (b.rules.length + 1) c7) hx7 (by show P ≠ Rb; omega))
      have HBel8 : Hid (Below Rb w (w7.setCell ⟨Rb, 1, none⟩ (.slice (some ⟨g7, 0, none⟩) (b.rules.length + 1) c7))) := hidIt (below_set5 (below_app5 (HBel6.out.mono (by omega)) hg7 (fun g e => by have := (HOB.out g e).1; omega) (by omega)) (Nat.le_refl _))
      have hs7 : w.heap.size ≤ w7.heap.size := Nat.le_trans hs6 hg7.size
      have HBODY8 : Hid (BodyAt (w7.setCell ⟨Rb, 1, none⟩ (.slice (some ⟨g7, 0, none⟩) (b.rules.length + 1) c7)) (.slice a bd.length c) bd) := hidIt (BodyIn.at_ (S := fun k => w3.heap.size ≤ k) (HBODY6.out.kept (fun k hS hk => (Below.heap_setCell w7 ⟨Rb, 1, none⟩ _ k (by show k ≠ Rb; omega)).trans (hg7.block k hk (fun e => by have := (HOB.out k e.symm).2; omega))) (by rw [size_setCell]; exact hg7.size) (fun k h _ => h)))
      clear hown7 hg7 hbl7 hrk7 hx7 hbox7 HBs6 HRk6 HX6 HBel6 HBODY6 HO6 x0 x1 x2 x3 x4 x5 k0 k1 k2
      cases rbad
      case true =>
        obtain ⟨b0, b1, b2⟩ := bcell3 HB8.out.box
        obtain ⟨r0, r1⟩ := (⟨cell_two0 HRk8.out, cell_two1 HRk8.out⟩ : _ ∧ _)
        have lr8 := lt_of_block HRk8.out
        go_wp2_with fail
        go_ret
        rw [HAD.out]
        refine ⟨rfl, ⟨_, _, _, HB8.out⟩, HBel8.out⟩
      case false =>
        have hfit := HFIT.out rfl
        obtain ⟨b0, b1, b2⟩ := bcell3 HB8.out.box
        obtain ⟨r0, r1⟩ := (⟨cell_two0 HRk8.out, cell_two1 HRk8.out⟩ : _ ∧ _)
        have lr8 := lt_of_block HRk8.out
        have lb8 := lt_of_block HB8.out.box
        have lx8 := lt_of_block HX8.out
        have XC8 := bcell6 HX8.out
        obtain ⟨x0, x1, x2, x3, x4, x5⟩ := XC8
        have HQ : Hid (rk = ((rk.toNat : Nat) : Int)) := (by have := hfit.2.1; omega : rk = ((rk.toNat : Nat) : Int))
        have HL : Hid (∀ wx, BodyAt wx (.slice a bd.length c) bd → _) := fun wx hx => ruleLine_any ⟨nm, sx, rk, bd, ⟨hg, hs⟩⟩ rk.toNat (by have := hfit.2.1; omega) HQ.out hfit.1 hfit.2.2.1 hfit.2.2.2.1 hfit.2.2.2.2 a c wx hx
        clear hfit HFIT
        have HRS : Hid (RES = (⟨b.prems, b.rules ++ [⟨nm, sx, rk, bd, ⟨hg, hs⟩⟩], b.proms⟩, true && (line.toList == (ruleT ⟨nm, sx, rk, bd, ⟨hg, hs⟩⟩ rk.toNat).toList) && decide (b.proms.length = 0))) := by show _ = _; rw [HAD.out]; rfl
        clear HAD
        generalize ruleT ⟨nm, sx, rk, bd, ⟨hg, hs⟩⟩ rk.toNat = T at *
        go_wp2_with fail
        refine (HL.out _ HBODY8.out).mono ?_
        rintro e w9 ⟨rfl, hb9⟩
        have HB9 := hidIt (HB8.out.go hb9)
        have HBel9 := hidIt (HBel8.out.trans (Below.mono hb9 (by have := hs7; rw [size_setCell]; omega)))
        clear hb9 HB8 HBel8 HRk8 HX8 HL b0 b1 b2 r0 r1 lr8 lb8 lx8 x0 x1 x2 x3 x4 x5
        obtain ⟨b0, b1, b2⟩ := bcell3 HB9.out.box
        have lb9 := lt_of_block HB9.out.box
        cases hq : (line.toList == T.toList)
        case false =>
          go_wp2_with fail
          go_ret
          rw [HRS.out]
          refine ⟨ret_bool ?_, ⟨_, _, _, HB9.out⟩, HBel9.out⟩
          simp [hq]
        case true =>
          by_cases hz : b.proms.length = 0
          case pos =>
            have hzI : ((b.proms.length : Nat) : Int) = 0 := by omega
            go_wp2_with fail
            go_ret
            rw [HRS.out]
            refine ⟨ret_bool ?_, ⟨_, _, _, HB9.out⟩, HBel9.out⟩
            simp [hq, hz]
          case neg =>
            have hzI : ((b.proms.length : Nat) : Int) ≠ 0 := by omega
            go_wp2_with fail
            go_ret
            rw [HRS.out]
            refine ⟨ret_bool ?_, ⟨_, _, _, HB9.out⟩, HBel9.out⟩
            simp [hq, hz]

end Go.Proofs.YtfcoplplkbeljaaGreatDoor
