/- The law RulebaseLimits, walked. What the rows' proofs share: a list of ints that came in, as the walks are told of it. What the rows' list of variables gives the walks; a world for the witness. -/
import Derived.Deep.Cut
import Derived.Deep.CutRange
import Derived.ProofKit
import Derived.OpenShut
import Derived.ShutString
import Derived.ChangeOld
import Derived.Test.YtmhloapjadhifaaGreatDoorCards
import Derived.Test.YtmhloapjadhifaaGreatDoorTie
import Derived.Deep.DeepHandedRow
import Derived.Lib.LaidTab
import Derived.Lib.LaidU8
import Derived.Lib.LaidRTab
import Derived.LaidLaws
import Derived.Lay
import Derived.MakeChecks
import Derived.Test.YtmhloapjadhifaaGreatDoorRLA
import Derived.Test.YtmhloapjadhifaaGreatDoorRLB
import Derived.Test.YtmhloapjadhifaaGreatDoorRLC
import Derived.Test.YtmhloapjadhifaaGreatDoorRLD
import Derived.Test.YtmhloapjadhifaaGreatDoorRLE

namespace Go.Proofs.YtmhloapjadhifaaGreatDoor
set_option linter.unusedVariables false
set_option linter.unusedSimpArgs false
open Go Go.RowKit

set_option maxHeartbeats 400000 in
theorem rValid5_any (g : Bool) (s : ByteArray) (w : World) (hs : s.size ≤ maxLen) :
    Calls Tryz.prog 41 #[.agg #[.bool g, .string s]] w fun e w' => e = .returned (.bool (vn s)) ∧ Below w.heap.size w w' := by
  go_enter Tryz.func41, Tryz.ntmps41
  go_wp2_with (go_at_call 96; refine (rValidName_any s _ hs).mono ?_; rintro e w' ⟨rfl, rfl⟩)
  go_ret
  exact ⟨rfl, (Below.refl _ _).alloc (Nat.le_refl _) _⟩

theorem conv_at (z : Nat) (hz : z < 26) (W : World) (mb : Nat) (hm : W.heap[mb]? = some (.cells #[.int .u8 (97 + (z : Int))] 5 (0, 0))) :
    (convert 48 9 (.slice (some ⟨mb, 0, none⟩) 1 1)).run Tryz.prog W = .ok (.string ⟨#[UInt8.ofNat (97 + z)]⟩) W := by
  refine run_convert_bytes_back (P := Tryz.prog) W 48 9 5 ⟨mb, 0, none⟩ 1 [UInt8.ofNat (97 + z)] Tryz.underlying48 Tryz.underlying5 Tryz.underlying9 ?_
  intro j hj
  obtain rfl : j = 0 := by simpa using hj
  have h1 : (UInt8.ofNat (97 + z)).toNat = 97 + z := by rw [UInt8.toNat_ofNat']; omega
  have e : (([UInt8.ofNat (97 + z)] : List UInt8)[0].toNat : Int) = 97 + (z : Int) := by show ((UInt8.ofNat (97 + z)).toNat : Int) = _; rw [h1]; omega
  rw [e]
  show W.cell? ((⟨mb, 0, none⟩ : Addr).add 0) = _
  rw [Addr.add_lit]
  simp [World.cell?, hm]

theorem step_conv {w : World} {ops : Array Oper} {o : Oper} {a : Act} {K : Act → World → Prop} {Q : Exit → Act → World → Prop} {E : Prop} (hgd : o.guard = none) (x : Operand) (ho : o.op = .convert 48 9 x) (mb z : Nat) (hx : a.eval x = .slice (some ⟨mb, 0, none⟩) 1 1)
    (hm : w.heap[mb]? = some (.cells #[.int .u8 (97 + (z : Int))] 5 (0, 0))) (hz : z < 26) (h : K (a.put o.dst (.string ⟨#[UInt8.ofNat (97 + z)]⟩)) w) :
    if Region.wanted o (yielded ops a.tmps) = true then Oper.wp Tryz.prog o a w K Q else E := by
  have hw : Region.wanted o (yielded ops a.tmps) = true := by simp [Region.wanted, hgd]
  rw [if_pos hw]
  have hc := conv_at z hz w mb hm
  unfold Oper.wp execOp
  simp only [ho, Sem.run_bind, Sem.run_pure, Result.andThen_ok, hx, hc]
  exact h

theorem modI_nat (n : Int) (hn : I64 n) : ∃ m : Nat, modI n 40 = (m : Int) ∧ m < 40 := by
  have := modI_bd n 40 (by omega)
  exact ⟨(modI n 40).toNat, by omega, by omega⟩
theorem ruleNm_of {m k : Nat} (h : (m : Int) = modI ((k : Nat) : Int) 26) : m = k % 26 := by
  unfold modI at h
  rw [if_neg (by omega)] at h
  omega

theorem lim_ok (n : Nat) : BsOk (mkP n) ∧ BsOk (mkR n) ∧ BsOk (mkQ n) := by
  have hm : ∀ z : Nat, z ≤ 12 → z ≤ maxLen := fun z h => by unfold maxLen; omega
  have hr : ∀ i, (ruleNm i).size = 2 := fun i => rfl
  have hn : ∀ i, (nL i).size = 4 := fun i => by unfold nL; rw [ByteArray.size_append, ByteArray.size_append, hr]; rfl
  have hx : ∀ i, (xL i).name.size ≤ maxLen := fun i => hm _ (by show (ruleNm (i / 2)).size ≤ 12; rw [hr]; omega)
  refine ⟨⟨fun p hp => ?_, fun p hp => by simp [mkP] at hp, fun p hp => by simp [mkP] at hp⟩, ⟨fun p hp => by simp [mkR] at hp, fun p hp => ?_, fun p hp => by simp [mkR] at hp⟩, ⟨fun p hp => by simp [mkQ] at hp, fun p hp => ?_, fun p hp => ?_⟩⟩
  · obtain ⟨i, -, rfl⟩ := List.mem_map.1 hp
    exact ⟨hx i, hm _ (Nat.zero_le _), (⟨by decide, by decide⟩ : I64 3), (⟨by decide, by decide⟩ : I64 0)⟩
  · obtain ⟨i, -, rfl⟩ := List.mem_map.1 hp
    exact ⟨hm _ (by show (nL i).size ≤ 12; rw [hn]; omega), (⟨by decide, by decide⟩ : I64 0), hx i, fun x hx => by simp [rL] at hx⟩
  · obtain rfl : p = rD := by simpa [mkQ] using hp
    exact ⟨hm _ (by decide), ⟨by decide, by decide⟩, hm _ (by decide), fun x hx => by simp [rD] at hx⟩
  · obtain ⟨i, -, rfl⟩ := List.mem_map.1 hp
    exact ⟨hm _ (by show (1 : Nat) ≤ 12; omega), (⟨by decide, by decide⟩ : I64 0), hx i⟩

set_option maxRecDepth 100000 in
set_option maxHeartbeats 4000000 in
theorem limits_walk (n : Int) (hn : I64 n) (w : World) (hE : EnvOk w) :
    Calls Tryz.prog 8 #[.int .i64 n] w fun e w' => e = .returned (.bool true) ∧ Below w.heap.size w w' := by
  obtain ⟨m, hm, hm40⟩ := modI_nat n hn
  have HE := hidIt hE
  have HZ := hidIt (lim_all m hm40)
  have hn' := hn
  unfold I64 at hn'
  clear hE
  go_enter Tryz.func8, Tryz.ntmps8
  go_wp2_with fail
  refine (mod_any n 40 (by omega) (by omega) (by omega) (by omega) w).mono ?_
  rintro e w1 ⟨rfl, rfl⟩
  rw [hm]
  have hL0 : LimIn (((w.alloc (.cells #[.slice none 0 0, .slice none 0 0, .slice none 0 0] 26)).alloc (.cells #[.slice none 0 0, .slice none 0 0, .slice none 0 0] 26)).alloc (.cells #[.slice none 0 0, .slice none 0 0, .slice none 0 0] 26)) (w.heap.size + 1 + 1 + 1) w.heap.size (w.heap.size + 1) (w.heap.size + 1 + 1) [] [] [] (.slice none 0 0) (.slice none 0 0) (.slice none 0 0) :=
    ⟨blk_kept2 (blk_kept2 (heap_alloc_new w _) (bgrow _ _)) (bgrow _ _), by rw [← size_alloc w (.cells #[.slice none 0 0, .slice none 0 0, .slice none 0 0] 26)]; exact blk_kept2 (heap_alloc_new _ _) (bgrow _ _), by rw [← size_alloc w (.cells #[.slice none 0 0, .slice none 0 0, .slice none 0 0] 26), ← size_alloc (w.alloc (.cells #[.slice none 0 0, .slice none 0 0, .slice none 0 0] 26)) (.cells #[.slice none 0 0, .slice none 0 0, .slice none 0 0] 26)]; exact heap_alloc_new _ _,
      by omega, by omega, by omega, OwnPm.nil _ _, OwnRu.nil _ _ _, OwnPr.nil _ _, fun g e => by simp [Value.ownBlock] at e, fun g e => by simp [Value.ownBlock] at e, fun g e => by simp [Value.ownBlock] at e⟩
  have HL0 := hidIt hL0
  have HB0 := hidIt ((bgrow2 w (.cells #[.slice none 0 0, .slice none 0 0, .slice none 0 0] 26) (.cells #[.slice none 0 0, .slice none 0 0, .slice none 0 0] 26)).trans (Below.mono (bgrow ((w.alloc (.cells #[.slice none 0 0, .slice none 0 0, .slice none 0 0] 26)).alloc (.cells #[.slice none 0 0, .slice none 0 0, .slice none 0 0] 26)) (.cells #[.slice none 0 0, .slice none 0 0, .slice none 0 0] 26)) (by simp; omega)))
  clear hL0
  go_wp2_with fail
  generalize (((w.alloc (.cells #[.slice none 0 0, .slice none 0 0, .slice none 0 0] 26)).alloc (.cells #[.slice none 0 0, .slice none 0 0, .slice none 0 0] 26)).alloc (.cells #[.slice none 0 0, .slice none 0 0, .slice none 0 0] 26)) = w0 at *
  go_loopw [6, 7] (fun v6 _ wr => ∃ (k : Nat) (pv rv qv : Value), k ≤ m ∧ v6 = .int .i64 (k : Int) ∧ Hid (LimIn wr (w.heap.size + 1 + 1 + 1) w.heap.size (w.heap.size + 1) (w.heap.size + 1 + 1) ((List.range k).map pL) ((List.range k).map rL) ((List.range k).map qL) pv rv qv) ∧ Hid (Below w.heap.size w wr)) (fun v6 _ _ => m - (intOf v6).toNat)
  case atStart => exact ⟨0, _, _, _, Nat.zero_le _, rfl, HL0.out, HB0.out⟩
  case round =>
    clear HL0 HB0
    obtain ⟨k, pv, rv, qv, hk, rfl, HLr, HBr⟩ := hrel
    by_cases hlt : k < m
    · have hltI : (k : Int) < (m : Int) := by omega
      obtain ⟨g, hg⟩ : ∃ g, g = decide (k % 2 = 1) := ⟨_, rfl⟩
      have hbit : (bits .and .i64 (k : Int) 1 == 1) = g := by
        have h : ∀ z : Fin 40, (bits .and .i64 ((z.val : Nat) : Int) 1 == 1) = decide (z.val % 2 = 1) := by decide
        rw [hg]
        exact h ⟨k, by omega⟩
      have HRA : Hid (∀ wx, Calls Tryz.prog 26 #[.int .i64 ((k : Int) / 2)] wx fun e w' => e = .returned (.string (ruleNm (k / 2))) ∧ Below wx.heap.size wx w') := fun wx => by
        have e : (k : Int) / 2 = ((k / 2 : Nat) : Int) := by omega
        rw [e]
        refine (ruleName_any _ ⟨by omega, by omega⟩ wx).mono fun e w' ⟨z, he, hz, hb⟩ => ⟨?_, hb⟩
        rw [he, ruleNm_of hz, Nat.mod_eq_of_lt (by omega)]
      have HX : Hid (xL k = ⟨g, ruleNm (k / 2)⟩) := by show _ = _; rw [hg]; rfl
      have HRB : Hid (∀ wx, Calls Tryz.prog 26 #[.int .i64 ((k : Int).tmod 26)] wx fun e w' => e = .returned (.string (ruleNm (k % 26))) ∧ Below wx.heap.size wx w') := fun wx => by
        have e : (k : Int).tmod 26 = ((k % 26 : Nat) : Int) := by rw [Int.tmod_eq_emod_of_nonneg (by omega)]; omega
        rw [e]
        refine (ruleName_any _ ⟨by omega, by omega⟩ wx).mono fun e w' ⟨z, he, hz, hb⟩ => ⟨?_, hb⟩
        rw [he, ruleNm_of hz, Nat.mod_mod]
      clear hg
      generalize ruleNm (k / 2) = nm at *
      go_wp2_with fail
      refine (HRA.out _).mono ?_
      rintro e w2 ⟨rfl, hb2⟩
      have HL3 := hidIt ((HLr.out.go hb2).go (bgrow w2 (.cells #[.bool g, .string nm] 28)))
      have HB3 := hidIt ((HBr.out.trans (Below.mono hb2 HBr.out.size)).trans (Below.mono (bgrow w2 (.cells #[.bool g, .string nm] 28)) (Nat.le_trans HBr.out.size hb2.size)))
      have HX3 := hidIt (heap_alloc_new w2 (.cells #[.bool g, .string nm] 28))
      have HK7 : Hid (((List.range k).map pL).length = k) := by show _ = _; simp
      have HK8 : Hid (((List.range k).map rL).length = k) := by show _ = _; simp
      have HK9 : Hid (((List.range k).map qL).length = k) := by show _ = _; simp
      have HS1 := hidIt (range_snoc pL k)
      have HS2 := hidIt (range_snoc rL k)
      have HS3 := hidIt (range_snoc qL k)
      generalize (List.range k).map pL = ps at *
      generalize (List.range k).map rL = rs at *
      generalize (List.range k).map qL = qs at *
      obtain ⟨ap, cp, rfl, -, -⟩ := shape_own HL3.out.p
      obtain ⟨aq, cq, rfl, -, -⟩ := shape_own HL3.out.q
      obtain ⟨ar, cr, rfl, -, -⟩ := (show ∃ (a : Option Addr) (c : Nat), rv = .slice a rs.length c ∧ rs.length ≤ c ∧ c ≤ maxLen by obtain ⟨bs, -, ho, -⟩ := HL3.out.r; exact shape_own ho)
      have hX2 : w2.heap.size ≥ w.heap.size + 1 + 1 + 1 := by
        have h1 := lt_of_block HLr.out.d
        have h2 := hb2.size
        omega
      have HL2 := hidIt (HLr.out.go hb2)
      obtain ⟨b0, b1, b2⟩ := bcell3 HL2.out.b
      have lb := lt_of_block HL2.out.b
      clear hb2 HLr HBr HRA
      have HL4 := hidIt (HL3.out.go (bgrow (w2.alloc (.cells #[.bool g, .string nm] 28)) (.cells #[.bool g, .string nm, .int .i64 3, .int .i64 0, .string ⟨#[]⟩] 64)))
      have HX4 := hidIt (blk_kept2 HX3.out (bgrow (w2.alloc (.cells #[.bool g, .string nm] 28)) (.cells #[.bool g, .string nm, .int .i64 3, .int .i64 0, .string ⟨#[]⟩] 64)))
      have HB4 := hidIt (HB3.out.trans (Below.mono (bgrow (w2.alloc (.cells #[.bool g, .string nm] 28)) (.cells #[.bool g, .string nm, .int .i64 3, .int .i64 0, .string ⟨#[]⟩] 64)) (by simp; omega)))
      have HN4 : Hid (((w2.alloc (.cells #[.bool g, .string nm] 28)).alloc (.cells #[.bool g, .string nm, .int .i64 3, .int .i64 0, .string ⟨#[]⟩] 64)).heap[w2.heap.size + 1]? = some (.cells #[.bool g, .string nm, .int .i64 3, .int .i64 0, .string ⟨#[]⟩] 64 (0, 0))) := by show _ = _; rw [← size_alloc w2 (.cells #[.bool g, .string nm] 28)]; exact heap_alloc_new _ _
      clear HL3 HX3 HB3
      go_wp2_with (at_builtin; refine wpList_append_sb (by rfl) _ _ elemPm rfl (w.heap.size + 1 + 1 + 1) (.slice ap ps.length cp) ps.length _ rfl HL4.out.p _ 1 rfl #[.bool g, .string nm, .int .i64 3, .int .i64 0, .string ⟨#[]⟩] _ HN4.out rfl (one_of (by rfl)) (by have := HK7.out; omega) (by simp; omega) ?_)
      intro g5 c5 w5 hown5 hg5 hbl5
      have HL5 := hidIt (HL4.out.addP (p := ⟨⟨g, nm⟩, 3, 0, ⟨#[]⟩⟩) hown5 hg5 (by rw [size_alloc, size_alloc]; exact hbl5))
      have HOB : Hid (∀ gg, (Value.slice ap ps.length cp).ownBlock = some gg → w.heap.size + 1 + 1 + 1 ≤ gg ∧ gg < w2.heap.size) := owns_blk HL2.out.p
      have hb5 := (hg5.block w.heap.size (lt_of_block HL4.out.b) (fun e => by have := (HOB.out _ e.symm).1; omega)).trans HL4.out.b
      have hx5 := (hg5.block w2.heap.size (lt_of_block HX4.out) (fun e => by have := (HOB.out _ e.symm).2; omega)).trans HX4.out
      have HX6 := hidIt (keepS (p := ⟨w.heap.size, 0, none⟩) (u := .slice (some ⟨g5, 0, none⟩) (ps.length + 1) c5) hx5 (by show w2.heap.size ≠ w.heap.size; omega))
      have HB6 := hidIt (below_set5 (b := w.heap.size) (i := 0) (u := .slice (some ⟨g5, 0, none⟩) (ps.length + 1) c5) (below_app5 HB4.out hg5 (fun gg e => by have := (HOB.out gg e).1; omega) (by simp; omega)) (Nat.le_refl _))
      have HOR : Hid (∀ gg, (Value.slice ar rs.length cr).ownBlock = some gg → gg < w2.heap.size) := fun gg e => (HL2.out.r.blk gg e).2
      have k5 := (bcell3 hb5).1
      have f5 := free_any hb5 0
      have l5 := lt_of_block hb5
      clear hown5 hg5 hbl5 hb5 hx5 HL2 HL4 HX4 HN4 HB4 HOB b0 b1 b2 lb
      go_wp2_with fail
      have hXs : w.heap.size < w2.heap.size := by omega
      generalize (w5.setCell ⟨w.heap.size, 0, none⟩ (.slice (some ⟨g5, 0, none⟩) (ps.length + 1) c5)) = w6 at *
      generalize w2.heap.size = X at *
      clear k5 f5 l5
      have hdz : (k : Int) / 26 = ((k / 26 : Nat) : Int) := by omega
      have hz1 : k / 26 < 26 := by omega
      have HNL : Hid (nL k = (⟨#[120]⟩ ++ ruleNm (k % 26)) ++ ⟨#[97 + UInt8.ofNat (k / 26)]⟩) := by
        show _ = _
        have e : UInt8.ofNat (97 + k / 26) = 97 + UInt8.ofNat (k / 26) := by simp
        unfold nL
        rw [e]
      have hrn : (ruleNm (k % 26)).size = 2 := rfl
      generalize k / 26 = z at *
      generalize ruleNm (k % 26) = rn at *
      have hz2 : IntKind.i64.wrap (z : Int) = (z : Int) := by rw [IntKind.wrap_i64]; omega
      have hz3 : IntKind.i64.wrap (97 + (z : Int)) = 97 + (z : Int) := by rw [IntKind.wrap_i64]; omega
      have hz4 : IntKind.u8.wrap (97 + (z : Int)) = 97 + (z : Int) := by show _ = _; simp [IntKind.wrap, IntKind.bits, IntKind.signed]; omega
      have hcv : ∀ W : World, (convert 48 9 (.slice (some ⟨W.heap.size, 0, none⟩) 1 1)).run Tryz.prog (W.alloc (.cells #[.int .u8 (97 + (z : Int))] 5)) = .ok (.string ⟨#[UInt8.ofNat (97 + z)]⟩) (W.alloc (.cells #[.int .u8 (97 + (z : Int))] 5)) := fun W => conv_at z hz1 _ _ (heap_alloc_new W _)
      obtain ⟨c0, c1, c2⟩ := bcell3 HL5.out.c
      have x0 := cell_two0 HX6.out
      have x1 := cell_two1 HX6.out
      have lc := lt_of_block HL5.out.c
      have lx := lt_of_block HX6.out
      have HOB : Hid (∀ gg, (Value.slice ar rs.length cr).ownBlock = some gg → w.heap.size + 1 + 1 + 1 ≤ gg ∧ gg < w6.heap.size) := HL5.out.r.blk
      have hW6 : w.heap.size + 1 + 1 + 1 ≤ w6.heap.size := by have := lt_of_block HL5.out.d; omega
      have lq2 : w.heap.size + 1 < w6.heap.size := lc
      go_cut [] from 10 to 53 (fun wx => ∃ rv' : Value, LimIn wx (w.heap.size + 1 + 1 + 1) w.heap.size (w.heap.size + 1) (w.heap.size + 1 + 1) (ps ++ [⟨⟨g, nm⟩, 3, 0, ⟨#[]⟩⟩]) (rs ++ [⟨(⟨#[120]⟩ ++ rn) ++ ⟨#[97 + UInt8.ofNat z]⟩, false, 0, [], ⟨g, nm⟩⟩]) qs (.slice (some ⟨g5, 0, none⟩) (ps.length + 1) c5) rv' (.slice aq qs.length cq) ∧ wx.heap[X]? = some (.cells #[.bool g, .string nm] 28 (0, 0)) ∧ Below w.heap.size w wx)
      case first =>
        have KC : ∀ wx, Ext w6 wx → wx.cell? ⟨w.heap.size + 1, 1, none⟩ = some (.slice ar rs.length cr) := fun wx hC => ext_cell c1 lc hC
        have KX0 : ∀ wx, Ext w6 wx → wx.cell? ⟨X, 0, none⟩ = some (.bool g) := fun wx hC => ext_cell x0 lx hC
        have KX1 : ∀ wx, Ext w6 wx → wx.cell? ⟨X, 1, none⟩ = some (.string nm) := fun wx hC => ext_cell x1 lx hC
        have HCA : Hid (∀ wx, Ext w6 wx → Calls Tryz.prog 26 #[.int .i64 ((k : Int).tmod 26)] wx fun e w'' => ∃ u, e = .returned u ∧ Ext w6 w'' ∧ Grows wx w'' ∧ Own.relR (Own.rA (Own.isVal (.string rn))) wx u w'') := fun wx hC => Own.callA hC ((HRB.out wx).mono fun e w'' ⟨he, hb⟩ => ⟨_, he, rfl, hb⟩)
        haveI : Nonempty (In (Ext w6)) := Ext.nonempty w6
        refine Own.wp_region_tail 16 (Ext w6) Grows (Own.relTab [(33, Own.rA (Own.isVal (.string rn))), (39, Own.rA (Own.isBlk #[.int .u8 (97 + (z : Int))] 5)), (44, Own.rA (Own.isBlk #[.string ((⟨#[120]⟩ : ByteArray) ++ rn ++ (⟨#[97 + UInt8.ofNat z]⟩ : ByteArray)), .bool false, .int .i64 0, .slice none 0 0, .bool g, .string nm] 66))]) (by kernel_rfl) (by kernel_rfl) (by kernel_rfl) (by kernel_rfl) (by kernel_rfl) (by kernel_rfl) (Own.stableO_cons (Own.isVal_up _) (Own.stableO_cons (Own.isBlk_up _ _) (Own.stableO_cons (Own.isBlk_up _ _) (Own.stableO_nil _)))) (Ext.start w6) ?_
        simp only [Own.idleTail]
        repeat (
          refine' Own.walkR_plain (by kernel_rfl) rfl rfl (fun wx hC hL => ?_) ?_
          rotate_left
          · (have hlw := Below.size hC
             have hlw1 := Nat.lt_of_lt_of_le lc hlw
             have hlw2 := Nat.lt_of_lt_of_le lx hlw
             simp only [KC wx hC, KX0 wx hC, KX1 wx hC, hlw1, hlw2, hz2, hz3, hz4, hrn, go_sem]; first | done | (go_simp; exact ⟨rfl, rfl⟩))
          simp only [Act.put, List.setIfInBounds_toArray, List.set_cons_zero, List.set_cons_succ])
        refine Own.walkR_rel (by kernel_rfl) rfl rfl (of_decide_eq_true (by kernel_rfl)) (fun wx hC hL => ?_) (fun v hv => ?_)
        · go_simp
          exact HCA.out wx hC
        obtain ⟨_, _, rfl⟩ := hv
        simp only [Act.put, List.setIfInBounds_toArray, List.set_cons_zero, List.set_cons_succ]
        repeat (
          refine' Own.walkR_plain (by kernel_rfl) rfl rfl (fun wx hC hL => ?_) ?_
          rotate_left
          · (have hlw := Below.size hC
             have hlw1 := Nat.lt_of_lt_of_le lc hlw
             have hlw2 := Nat.lt_of_lt_of_le lx hlw
             simp only [KC wx hC, KX0 wx hC, KX1 wx hC, hlw1, hlw2, hz2, hz3, hz4, hrn, go_sem]; first | done | (go_simp; exact ⟨rfl, rfl⟩))
          simp only [Act.put, List.setIfInBounds_toArray, List.set_cons_zero, List.set_cons_succ])
        refine Own.walkR_rel (by kernel_rfl) rfl rfl (of_decide_eq_true (by kernel_rfl)) (fun wx hC hL => ?_) (fun v hv => ?_)
        · go_simp
          exact Own.blkA hC _ _
        obtain ⟨_, _, b39, rfl, -⟩ := hv
        simp only [Act.put, List.setIfInBounds_toArray, List.set_cons_zero, List.set_cons_succ]
        refine' Own.walkR_plain (x := .string ⟨#[97 + UInt8.ofNat z]⟩) (by kernel_rfl) rfl rfl (fun wx hC hL => ?_) ?_
        · obtain ⟨b, e39, h39⟩ : Own.isBlk #[.int .u8 (97 + (z : Int))] 5 (.slice (some ⟨b39, 0, none⟩) 1 1) wx := hL.get 39 (by simp [Own.more]) (by kernel_rfl) rfl rfl
          injection e39 with e39
          injection e39 with e39
          injection e39 with e39
          subst e39
          have hcv1 := conv_at z hz1 wx _ h39
          go_simp
          exact ⟨rfl, rfl⟩
        simp only [Act.put, List.setIfInBounds_toArray, List.set_cons_zero, List.set_cons_succ]
        repeat (
          refine' Own.walkR_plain (by kernel_rfl) rfl rfl (fun wx hC hL => ?_) ?_
          rotate_left
          · (have hlw := Below.size hC
             have hlw1 := Nat.lt_of_lt_of_le lc hlw
             have hlw2 := Nat.lt_of_lt_of_le lx hlw
             simp only [KC wx hC, KX0 wx hC, KX1 wx hC, hlw1, hlw2, hz2, hz3, hz4, hrn, go_sem]; first | done | (go_simp; exact ⟨rfl, rfl⟩))
          simp only [Act.put, List.setIfInBounds_toArray, List.set_cons_zero, List.set_cons_succ])
        refine Own.walkR_rel (by kernel_rfl) rfl rfl (of_decide_eq_true (by kernel_rfl)) (fun wx hC hL => ?_) (fun v hv => ?_)
        · go_simp
          exact Own.blkA hC _ _
        obtain ⟨_, _, b44, rfl, -⟩ := hv
        simp only [Act.put, List.setIfInBounds_toArray, List.set_cons_zero, List.set_cons_succ]
        refine Own.walkR_idle (fun wx _ => Below.refl _ _) ?_
        refine Own.walkR_idle (fun wx _ => Below.refl _ _) ?_
        refine Own.walkR_idle (fun wx _ => Below.refl _ _) ?_
        refine fun w7 hE7 hK => ?_
        obtain ⟨bb, e44, h44⟩ : Own.isBlk #[.string ((⟨#[120]⟩ : ByteArray) ++ rn ++ (⟨#[97 + UInt8.ofNat z]⟩ : ByteArray)), .bool false, .int .i64 0, .slice none 0 0, .bool g, .string nm] 66 (.slice (some ⟨b44, 0, none⟩) 1 1) w7 := hK.get 44 (by simp [Own.more]) rfl rfl
        injection e44 with e44
        injection e44 with e44
        injection e44 with e44
        subst e44
        have hW7 : Below w6.heap.size w6 w7 := hE7
        have HLc := hidIt (HL5.out.go hW7)
        obtain ⟨bs, hbsl, ho, hf⟩ := HLc.out.r
        have HB7 := hidIt (HB6.out.trans (Below.mono hW7 (by omega)))
        have HX7 := hidIt (blk_kept2 HX6.out hW7)
        have hs7 := hW7.size
        clear hK hE7 KC KX0 KX1 HCA
        simp only [List.drop_succ_cons, List.drop_zero]
        refine wpList_append_sb (by rfl) (.tmp 30) (.tmp 44) elemRu (by rfl) (w.heap.size + 1 + 1 + 1) (.slice ar rs.length cr) rs.length _ (by rfl) ho b44 1 (by rfl) #[.string ((⟨#[120]⟩ : ByteArray) ++ rn ++ (⟨#[97 + UInt8.ofNat z]⟩ : ByteArray)), .bool false, .int .i64 0, .slice none 0 0, .bool g, .string nm] _ h44 rfl (one_of (by rfl)) (by have := HK8.out; omega) (by omega) ?_
        intro g8 c8 w8 hown8 hg8 hbl8
        have hbox8 := (hg8.block (w.heap.size + 1) (lt_of_block HLc.out.c) (fun e => by have := (HOB.out _ e.symm).1; omega)).trans HLc.out.c
        have k8 := (bcell3 hbox8).2.1
        have f8 := free_any hbox8 1
        have l8 := lt_of_block hbox8
        have HL8 := hidIt (HLc.out.addR (r := ⟨(⟨#[120]⟩ ++ rn) ++ ⟨#[97 + UInt8.ofNat z]⟩, false, 0, [], ⟨g, nm⟩⟩) hbsl hf hown8 hg8 hbl8 rfl)
        have HX8 := hidIt (keepS (p := ⟨w.heap.size + 1, 1, none⟩) (u := .slice (some ⟨g8, 0, none⟩) (rs.length + 1) c8) ((hg8.block X (lt_of_block HX7.out) (fun e => by have := HOR.out X e.symm; omega)).trans HX7.out) (by show X ≠ w.heap.size + 1; omega))
        have HB8 := hidIt (below_set5 (b := w.heap.size + 1) (i := 1) (u := .slice (some ⟨g8, 0, none⟩) (rs.length + 1) c8) (below_app5 HB7.out hg8 (fun gg e => by have := (HOB.out gg e).1; omega) (by omega)) (by omega))
        clear hown8 hg8 hbl8 hbox8 ho hf
        go_wp2_with fail
        go_meet
        exact ⟨_, HL8.out, HX8.out, HB8.out⟩
      case rest =>
        obtain ⟨rv', hL, hX, hB⟩ := hcut
        have HL9 := hidIt (hL.go (bgrow wc (.cells #[.string ⟨#[114]⟩, .int .i64 0, .bool g, .string nm] 68)))
        have HB9 := hidIt (hB.trans (Below.mono (bgrow wc (.cells #[.string ⟨#[114]⟩, .int .i64 0, .bool g, .string nm] 68)) hB.size))
        have HN9 := hidIt (heap_alloc_new wc (.cells #[.string ⟨#[114]⟩, .int .i64 0, .bool g, .string nm] 68))
        have HOQ : Hid (∀ gg, (Value.slice aq qs.length cq).ownBlock = some gg → w.heap.size + 1 + 1 + 1 ≤ gg ∧ gg < wc.heap.size) := owns_blk hL.q
        obtain ⟨d0, d1, d2⟩ := bcell3 hL.d
        have ld := lt_of_block hL.d
        have x0 := cell_two0 hX
        have x1 := cell_two1 hX
        have lx := lt_of_block hX
        have hWc : w.heap.size ≤ wc.heap.size := hB.size
        clear hL hX hB HL5 HX6 HB6 HOB hcv
        go_wp2_with (at_builtin; refine wpList_append_sb (by rfl) _ _ elemPr rfl (w.heap.size + 1 + 1 + 1) (.slice aq qs.length cq) qs.length _ rfl HL9.out.q _ 1 rfl #[.string ⟨#[114]⟩, .int .i64 0, .bool g, .string nm] _ HN9.out rfl (one_of (by rfl)) (by have := HK9.out; omega) (by simp; omega) ?_)
        intro g8 c8 w8 hown8 hg8 hbl8
        have HL10 := hidIt (HL9.out.addQ (p := ⟨⟨#[114]⟩, 0, ⟨g, nm⟩⟩) hown8 hg8 (by rw [size_alloc]; exact hbl8))
        have hd8 := (hg8.block (w.heap.size + 1 + 1) (lt_of_block HL9.out.d) (fun e => by have := (HOQ.out _ e.symm).1; omega)).trans HL9.out.d
        have HB10 := hidIt (below_set5 (b := w.heap.size + 1 + 1) (i := 2) (u := .slice (some ⟨g8, 0, none⟩) (qs.length + 1) c8) (below_app5 HB9.out hg8 (fun gg e => by have := (HOQ.out gg e).1; omega) (by simp; omega)) (by omega))
        have k8 := (bcell3 hd8).2.2
        have f8 := free_any hd8 2
        have l8 := lt_of_block hd8
        have HL11 : Hid (LimIn (w8.setCell ⟨w.heap.size + 1 + 1, 2, none⟩ (.slice (some ⟨g8, 0, none⟩) (qs.length + 1) c8)) (w.heap.size + 1 + 1 + 1) w.heap.size (w.heap.size + 1) (w.heap.size + 1 + 1) ((List.range (k + 1)).map pL) ((List.range (k + 1)).map rL) ((List.range (k + 1)).map qL) (.slice (some ⟨g5, 0, none⟩) (ps.length + 1) c5) rv' (.slice (some ⟨g8, 0, none⟩) (qs.length + 1) c8)) := by
          show LimIn _ _ _ _ _ _ _ _ _ _ _
          rw [HS1.out, HS2.out, HS3.out]
          have e1 : pL k = ⟨⟨g, nm⟩, 3, 0, ⟨#[]⟩⟩ := by unfold pL; rw [HX.out]
          have e2 : rL k = ⟨(⟨#[120]⟩ ++ rn) ++ ⟨#[97 + UInt8.ofNat z]⟩, false, 0, [], ⟨g, nm⟩⟩ := by unfold rL; rw [HX.out, HNL.out]
          have e3 : qL k = ⟨⟨#[114]⟩, 0, ⟨g, nm⟩⟩ := by unfold qL; rw [HX.out]
          rw [e1, e2, e3]
          exact HL10.out
        clear hown8 hg8 hbl8 hd8 HL9 HB9 HN9 HOQ d0 d1 d2 ld x0 x1 lx HL10
        go_wp2_with fail
        go_roundw
        case rel =>
          exact ⟨k + 1, _, _, _, by omega, by go_num, HL11.out, HB10.out⟩
        case measure => simp [intOf]; omega
    · obtain rfl : k = m := by omega
      have hltI : ¬ (k : Int) < (k : Int) := by omega
      have hlp : Hid (((List.range k).map pL).length = k) := by show _ = _; simp
      have hlr : Hid (((List.range k).map rL).length = k) := by show _ = _; simp
      have hlq : Hid (((List.range k).map qL).length = k) := by show _ = _; simp
      have HOK := hidIt (lim_ok k)
      have HMP : Hid (mkP k = ⟨(List.range k).map pL, [], []⟩) := by show _ = _; rfl
      have HMR : Hid (mkR k = ⟨[], (List.range k).map rL, []⟩) := by show _ = _; rfl
      have HMQ : Hid (mkQ k = ⟨[], [rD], (List.range k).map qL⟩) := by show _ = _; rfl
      generalize (List.range k).map pL = ps at *
      generalize (List.range k).map rL = rs at *
      generalize (List.range k).map qL = qs at *
      generalize mkP k = MP at *
      generalize mkR k = MR at *
      generalize mkQ k = MQ at *
      obtain ⟨ap, cp, rfl, -, -⟩ := shape_own HLr.out.p
      obtain ⟨aq, cq, rfl, -, -⟩ := shape_own HLr.out.q
      obtain ⟨ar, cr, rfl, -, -⟩ := (show ∃ (a : Option Addr) (c : Nat), rv = .slice a rs.length c ∧ rs.length ≤ c ∧ c ≤ maxLen by obtain ⟨bs, -, ho, -⟩ := HLr.out.r; exact shape_own ho)
      obtain ⟨b0, b1, b2⟩ := bcell3 HLr.out.b
      obtain ⟨c0, c1, c2⟩ := bcell3 HLr.out.c
      obtain ⟨d0, d1, d2⟩ := bcell3 HLr.out.d
      have lb := lt_of_block HLr.out.b
      have lc := lt_of_block HLr.out.c
      have ld := lt_of_block HLr.out.d
      have f1 := free_any HLr.out.d 1
      have hk0 : ∀ gg, gg ≠ w.heap.size + 1 + 1 → gg < wr.heap.size → ((wr.setCell ⟨w.heap.size + 1 + 1, 1, none⟩ (.slice (some ⟨wr.heap.size, 0, none⟩) 1 1)).alloc (.cells #[.string ⟨#[114]⟩, .bool false, .int .i64 0, .slice none 0 0, .bool false, .string ⟨#[112]⟩] 66)).heap[gg]? = wr.heap[gg]? := fun gg h1 h2 => ((bgrow (wr.setCell ⟨w.heap.size + 1 + 1, 1, none⟩ (.slice (some ⟨wr.heap.size, 0, none⟩) 1 1)) _).block gg (by rw [size_setCell]; exact h2)).trans (Below.heap_setCell wr ⟨w.heap.size + 1 + 1, 1, none⟩ _ gg h1)
      have hkn : ((wr.setCell ⟨w.heap.size + 1 + 1, 1, none⟩ (.slice (some ⟨wr.heap.size, 0, none⟩) 1 1)).alloc (.cells #[.string ⟨#[114]⟩, .bool false, .int .i64 0, .slice none 0 0, .bool false, .string ⟨#[112]⟩] 66)).heap[wr.heap.size]? = some (.cells #[.string ⟨#[114]⟩, .bool false, .int .i64 0, .slice none 0 0, .bool false, .string ⟨#[112]⟩] 66 (0, 0)) := by
        have := heap_alloc_new (wr.setCell ⟨w.heap.size + 1 + 1, 1, none⟩ (.slice (some ⟨wr.heap.size, 0, none⟩) 1 1)) (.cells #[.string ⟨#[114]⟩, .bool false, .int .i64 0, .slice none 0 0, .bool false, .string ⟨#[112]⟩] 66)
        rw [size_setCell] at this
        exact this
      have hs0 : wr.heap.size ≤ ((wr.setCell ⟨w.heap.size + 1 + 1, 1, none⟩ (.slice (some ⟨wr.heap.size, 0, none⟩) 1 1)).alloc (.cells #[.string ⟨#[114]⟩, .bool false, .int .i64 0, .slice none 0 0, .bool false, .string ⟨#[112]⟩] 66)).heap.size := by simp [World.setCell]
      have HQb := hidIt ((hk0 w.heap.size (by omega) lb).trans HLr.out.b)
      have HQc := hidIt ((hk0 (w.heap.size + 1) (by omega) lc).trans HLr.out.c)
      have HQd : Hid (((wr.setCell ⟨w.heap.size + 1 + 1, 1, none⟩ (.slice (some ⟨wr.heap.size, 0, none⟩) 1 1)).alloc (.cells #[.string ⟨#[114]⟩, .bool false, .int .i64 0, .slice none 0 0, .bool false, .string ⟨#[112]⟩] 66)).heap[w.heap.size + 1 + 1]? = some (.cells #[.slice none 0 0, .slice (some ⟨wr.heap.size, 0, none⟩) 1 1, .slice aq qs.length cq] 26 (0, 0))) := hidIt (blk_kept2 (setB (.slice (some ⟨wr.heap.size, 0, none⟩) 1 1) HLr.out.d) (bgrow _ _))
      have HV1 : Hid (BaseAt ((wr.setCell ⟨w.heap.size + 1 + 1, 1, none⟩ (.slice (some ⟨wr.heap.size, 0, none⟩) 1 1)).alloc (.cells #[.string ⟨#[114]⟩, .bool false, .int .i64 0, .slice none 0 0, .bool false, .string ⟨#[112]⟩] 66)) (.agg #[.slice ap ps.length cp, .slice none 0 0, .slice none 0 0]) MP) := by
        show BaseAt _ _ _
        rw [HMP.out]
        exact ⟨_, _, _, rfl, OwnPm.at_ (owns_kept HLr.out.p fun gg e => hk0 gg (by have := (owns_blk HLr.out.p gg e).1; omega) (owns_blk HLr.out.p gg e).2), .inl ⟨rfl, rfl⟩, .inl ⟨rfl, rfl⟩⟩
      have HV2 : Hid (BaseAt ((wr.setCell ⟨w.heap.size + 1 + 1, 1, none⟩ (.slice (some ⟨wr.heap.size, 0, none⟩) 1 1)).alloc (.cells #[.string ⟨#[114]⟩, .bool false, .int .i64 0, .slice none 0 0, .bool false, .string ⟨#[112]⟩] 66)) (.agg #[.slice none 0 0, .slice ar rs.length cr, .slice none 0 0]) MR) := by
        show BaseAt _ _ _
        rw [HMR.out]
        exact ⟨_, _, _, rfl, .inl ⟨rfl, rfl⟩, (HLr.out.r.kept (S' := fun _ => False) (fun gg e => hk0 gg (by have := (HLr.out.r.blk gg e).1; omega) (HLr.out.r.blk gg e).2) (fun k hS _ => hS.elim) hs0 (fun k hS _ => hS)).at_, .inl ⟨rfl, rfl⟩⟩
      have HV3 : Hid (BaseAt ((wr.setCell ⟨w.heap.size + 1 + 1, 1, none⟩ (.slice (some ⟨wr.heap.size, 0, none⟩) 1 1)).alloc (.cells #[.string ⟨#[114]⟩, .bool false, .int .i64 0, .slice none 0 0, .bool false, .string ⟨#[112]⟩] 66)) (.agg #[.slice none 0 0, .slice (some ⟨wr.heap.size, 0, none⟩) 1 1, .slice aq qs.length cq]) MQ) := by
        show BaseAt _ _ _
        rw [HMQ.out]
        refine ⟨_, _, _, rfl, .inl ⟨rfl, rfl⟩, .inr ⟨wr.heap.size, 0, 1, rfl, Nat.le_refl _, by unfold maxLen; omega, lt_of_block hkn, fun i hi => ?_⟩, OwnPr.at_ (owns_kept HLr.out.q fun gg e => hk0 gg (by have := (owns_blk HLr.out.q gg e).1; omega) (owns_blk HLr.out.q gg e).2)⟩
        obtain rfl : i = 0 := by simp at hi; exact hi
        obtain ⟨e0, e1, e2, e3, e4, e5⟩ := bcell6 hkn
        exact ⟨_, e0, e1, e2, e3, e4, e5, .inl ⟨rfl, rfl⟩⟩
      have HBe : Hid (Below w.heap.size w ((wr.setCell ⟨w.heap.size + 1 + 1, 1, none⟩ (.slice (some ⟨wr.heap.size, 0, none⟩) 1 1)).alloc (.cells #[.string ⟨#[114]⟩, .bool false, .int .i64 0, .slice none 0 0, .bool false, .string ⟨#[112]⟩] 66))) := hidIt ((below_set5 (b := w.heap.size + 1 + 1) (i := 1) (u := .slice (some ⟨wr.heap.size, 0, none⟩) 1 1) HBr.out (by omega)).trans (Below.mono (bgrow _ _) (by rw [size_setCell]; exact HBr.out.size)))
      have hz := HZ.out
      clear hk0 hkn hs0 HLr HBr HMP HMR HMQ HZ
      go_wp2_with fail
      clear b0 b1 b2 c0 c1 c2 d0 d1 d2 lb lc ld f1
      generalize ((wr.setCell ⟨w.heap.size + 1 + 1, 1, none⟩ (.slice (some ⟨wr.heap.size, 0, none⟩) 1 1)).alloc (.cells #[.string ⟨#[114]⟩, .bool false, .int .i64 0, .slice none 0 0, .bool false, .string ⟨#[112]⟩] 66)) = w0 at *
      refine (bvalidate_any MP HOK.out.1 _ _ HV1.out).mono ?_
      rintro e w1 ⟨rfl, hb1⟩
      have HQc1 := hidIt (blk_kept2 HQc.out hb1)
      have HQd1 := hidIt (blk_kept2 HQd.out hb1)
      have HV21 := hidIt (HV2.out.below hb1)
      have HV31 := hidIt (HV3.out.below hb1)
      have HBe1 := hidIt (HBe.out.trans (Below.mono hb1 HBe.out.size))
      clear hb1 HV1 HV2 HV3 HQb HQc HQd HBe
      obtain ⟨hz1, hz2, hz3⟩ := hz
      obtain ⟨g1, hg1⟩ : ∃ g, g = decide (k ≤ 16) := ⟨_, rfl⟩
      obtain ⟨g2, hg2⟩ : ∃ g, g = decide (k ≤ 24) := ⟨_, rfl⟩
      obtain ⟨g3, hg3⟩ : ∃ g, g = decide (k ≤ 8) := ⟨_, rfl⟩
      have i1 : decide ((k : Int) ≤ 16) = g1 := by rw [hg1]; exact decide_eq_decide.2 (by omega)
      have i2 : decide ((k : Int) ≤ 24) = g2 := by rw [hg2]; exact decide_eq_decide.2 (by omega)
      have i3 : decide ((k : Int) ≤ 8) = g3 := by rw [hg3]; exact decide_eq_decide.2 (by omega)
      rw [← hg1] at hz1
      rw [← hg2] at hz2
      rw [← hg3] at hz3
      clear hg1 hg2 hg3
      generalize baseE MP = y1 at *
      generalize hy2 : baseE MR = y2 at *
      generalize hy3 : baseE MQ = y3 at *
      have HY2 := hidIt hy2
      have HY3 := hidIt hy3
      clear hy2 hy3
      obtain ⟨c0, c1, c2⟩ := bcell3 HQc1.out
      have lc := lt_of_block HQc1.out
      go_wp2_with fail
      refine (bvalidate_any MR HOK.out.2.1 _ _ HV21.out).mono ?_
      rw [HY2.out]
      rintro e w2 ⟨rfl, hb2⟩
      have HQd2 := hidIt (blk_kept2 HQd1.out hb2)
      have HV32 := hidIt (HV31.out.below hb2)
      have HBe2 := hidIt (HBe1.out.trans (Below.mono hb2 HBe1.out.size))
      clear hb2 HV21 HV31 HQc1 HQd1 HBe1 c0 c1 c2 lc
      obtain ⟨d0, d1, d2⟩ := bcell3 HQd2.out
      have ld := lt_of_block HQd2.out
      go_wp2_with fail
      refine (bvalidate_any MQ HOK.out.2.2 _ _ HV32.out).mono ?_
      rw [HY3.out]
      rintro e w3 ⟨rfl, hb3⟩
      have HBe3 := hidIt (HBe2.out.trans (Below.mono hb3 HBe2.out.size))
      clear hb3 HV32 HQd2 HBe2 d0 d1 d2 ld
      go_wp2_with fail
      refine (rValid5_any false ⟨#[114]⟩ _ (by decide)).mono ?_
      rintro e w4 ⟨rfl, hb4⟩
      have HBe4 := hidIt (HBe3.out.trans (Below.mono hb4 HBe3.out.size))
      have hvn : vn ⟨#[114]⟩ = true := by kernel_rfl
      rw [hvn]
      clear hb4 HBe3
      go_wp2_with fail
      refine (awake5_any _ (HE.out.go HBe4.out)).mono ?_
      rintro e w5 ⟨rfl, hb5⟩
      have HBe5 := hidIt (HBe4.out.trans (Below.mono hb5 HBe4.out.size))
      clear hb5 HBe4
      go_wp2_with fail
      go_ret
      exact ⟨rfl, HBe5.out⟩
end Go.Proofs.YtmhloapjadhifaaGreatDoor

namespace Go.Proofs.YtmhloapjadhifaaGreatDoor
set_option linter.unusedVariables false
set_option linter.unusedSimpArgs false
open Go.ChangeShapes Go.WideShapes Go.ChangeAt Go.RowKit

theorem ownKn : ownKnob Tryz.prog.godebug = none := by kernel_rfl
theorem laidOutF : laidOutB Tryz.prog = true := by kernel_rfl

/-- A list of ints that came in: nil, or a row of as many cells as it may grow to. -/
def IsRow (w : World) (a : Option Addr) (len cap : Nat) (zs : List Int) : Prop :=
  (a = none ∧ len = 0 ∧ cap = 0 ∧ zs = []) ∨
  ∃ x, a = some x ∧ len ≤ cap ∧ cap ≤ maxLen ∧ zs.length = cap ∧ (∀ i, i < zs.length → w.cell? (x.add i) = some (.int .i64 (zs.getD i 0))) ∧ ∀ n ∈ zs, (Lit.int .i64 n).wf = true

theorem spot_none {x : Addr} {w : World} {v : Value} (h : w.cell? (x.add 0) = some v) : x = ⟨x.block, x.off, none⟩ := by
  obtain ⟨b, off, spot⟩ := x
  cases spot with
  | none => rfl
  | some s =>
    exfalso
    unfold World.cell? at h
    unfold Addr.add at h
    split at h
    · split at h <;> simp_all
    · cases h

theorem add_plain (b off i : Nat) : (⟨b, off, none⟩ : Addr).add i = ⟨b, off + i, none⟩ := by unfold Addr.add; split <;> simp_all

theorem ints_of_row {w : World} {a : Option Addr} {len cap : Nat} {zs : List Int} (h : IsRow w a len cap zs) : IntsAt w w.heap.size (.slice a len cap) (zs.take len) := by
  rcases h with ⟨rfl, rfl, rfl, rfl⟩ | ⟨x, rfl, h1, h2, h3, h4, h5⟩
  · exact .inl ⟨rfl, rfl⟩
  · have hl : (zs.take len).length = len := by rw [List.length_take]; omega
    refine .inr ⟨x, cap, by rw [hl], by omega, h2, fun i hi => ?_, fun i => ?_⟩
    · rw [hl] at hi
      have hc := h4 i (by omega)
      have e1 := spot_none (h4 0 (by omega))
      rw [e1, add_plain] at hc
      exact ⟨x.block, x.off, e1, World.block_lt_of_cell? w ⟨x.block, x.off + i, none⟩ hc, by rw [getD_take, if_pos hi]; exact hc⟩
    · rw [getD_take]
      split
      · by_cases hi : i < zs.length
        · have hm : zs.getD i 0 ∈ zs := by
            rw [List.getD_eq_getElem?_getD, List.getElem?_eq_getElem hi]
            exact List.getElem_mem hi
          have hw := h5 _ hm
          simp only [Lit.wf, Bool.and_eq_true, decide_eq_true_eq] at hw
          exact hw
        · rw [List.getD_eq_getElem?_getD, List.getElem?_eq_none (by omega)]
          simp
      · omega
end Go.Proofs.YtmhloapjadhifaaGreatDoor

namespace Go.Proofs.YtmhloapjadhifaaGreatDoor
set_option linter.unusedVariables false
set_option linter.unusedSimpArgs false
open Go.ChangeShapes Go.WideShapes Go.ChangeAt Go.RowKit

theorem gWords : Tryz.prog.globalNamed "deliberation/rulebase.premiseWords" = some 1 := by kernel_rfl
theorem gWordsT : (Tryz.prog.globals[1]?).map (·.type) = some 168 := by kernel_rfl
theorem gAsciiT : (Tryz.prog.globals[2]?).map (·.type) = some 171 := by kernel_rfl
theorem gErrS : Tryz.prog.globalNamed "strconv.ErrSyntax" = some 5 := by kernel_rfl
theorem gErrST : (Tryz.prog.globals[5]?).map (·.type) = some 142 := by kernel_rfl
theorem gErrR : Tryz.prog.globalNamed "strconv.ErrRange" = some 6 := by kernel_rfl
theorem gErrRT : (Tryz.prog.globals[6]?).map (·.type) = some 142 := by kernel_rfl
theorem gWhite : Tryz.prog.globalNamed "unicode.White_Space" = some 3 := by kernel_rfl
theorem gWhiteT : (Tryz.prog.globals[3]?).map (·.type) = some 200 := by kernel_rfl
theorem cells4 : Tryz.prog.cellsOf 168 = 4 := by kernel_rfl
theorem cells1 : Tryz.prog.cellsOf 9 = 1 := by kernel_rfl
theorem cells256 : Tryz.prog.cellsOf 171 = 256 := by kernel_rfl
theorem cellsu8 : Tryz.prog.cellsOf 5 = 1 := by kernel_rfl

/-- An array of strings that reads as these holds these. -/
theorem cells_of_texts {H : Type} {enc : TypeId × Value → H} {P : Program} {w : World} {base : Nat} {sp : Nat → Bool} {held : Bool} {fuel : Nat} {t e : TypeId} {n : Nat} {cs : List Value} {zs : List (List UInt8)} {p : List MemPlace}
    (ht : P.underlying t = some (.array n e)) (he : P.underlying e = some .string) (hce : P.cellsOf e = 1) (hct : P.cellsOf t = n)
    (h : DataW.trod enc P w base sp held fuel t cs = some (.agg (zs.map fun z => .lit (.string z)), p)) : cs = zs.map fun z => Value.string ⟨z.toArray⟩ := by
  obtain ⟨xs, m, rfl, hx, hl, hn, hel⟩ := DataW.trod_array ht h
  have hxs : xs.map (·.1) = zs.map fun z => (DataW.lit (.string z) : DataW H) := by
    have := congrArg Prod.fst hx
    simpa using this.symm
  have hzl : zs.length = n := by
    have := congrArg List.length hxs
    simp at this
    omega
  apply List.ext_getElem?
  intro i
  by_cases hi : i < n
  · have hx2 : i < xs.length := by omega
    have hf := hel i hi
    rw [List.getElem?_eq_getElem hx2, hce, Nat.mul_one] at hf
    obtain ⟨s, hc, hsx, -⟩ := DataW.trod_string he hf
    have h1 : cs[i]? = some (.string s) := by
      have := congrArg (·[0]?) hc
      simpa [List.getElem?_take, List.getElem?_drop] using this
    have h2 : (xs.map (·.1))[i]? = some (DataW.lit (.string s.data.toList) : DataW H) := by
      rw [List.getElem?_map, List.getElem?_eq_getElem hx2, hsx]
      rfl
    rw [hxs] at h2
    simp only [List.getElem?_map, Option.map_eq_some_iff, DataW.lit.injEq, Lit.string.injEq] at h2
    obtain ⟨z', hz', e2⟩ := h2
    rw [h1, List.getElem?_map, hz', e2]
    rfl
  · rw [List.getElem?_eq_none (by omega), List.getElem?_eq_none (by simp; omega)]


theorem words_of_reads {W : World} (h : Lib.VarReads Tryz.prog W "deliberation/rulebase.premiseWords" Rows.laid_deliberation_rulebase_premiseWords) : WordsAt W := by
  obtain ⟨g', t', cs, fuel, p, hg', ht', hvar, hd⟩ := h
  obtain rfl := Option.some.inj (gWords.symm.trans hg')
  obtain rfl := Option.some.inj (gWordsT.symm.trans ht')
  have hc := cells_of_texts (zs := [[], [97, 120, 105, 111, 109], [112, 114, 101, 109, 105, 115, 101], [97, 115, 115, 117, 109, 101]]) Tryz.underlying168 Tryz.underlying9 cells1 cells4 hd
  have hcell := World.var?_cell gWords hvar
  have hcs : cs = #[.string ⟨#[]⟩, .string ⟨#[97, 120, 105, 111, 109]⟩, .string ⟨#[112, 114, 101, 109, 105, 115, 101]⟩, .string ⟨#[97, 115, 115, 117, 109, 101]⟩] := by
    apply Array.ext'
    rw [hc]
    rfl
  subst hcs
  exact ⟨lt_of_cellE (hcell 0), hcell 0, hcell 1, hcell 2, hcell 3⟩
theorem iface_of_reads {W : World} {n : String} {g : Nat} {nm : String} {d : DataW Unit} (hg : Tryz.prog.globalNamed n = some g) (ht : (Tryz.prog.globals[g]?).map (·.type) = some 142) (h : Lib.VarReads Tryz.prog W n (.iface nm d)) : ∃ t p, W.cell? ⟨g, 0, none⟩ = some (.iface t p) := by
  obtain ⟨g', t', cs, fuel, p, hg', ht', hvar, hd⟩ := h
  obtain rfl := Option.some.inj (hg.symm.trans hg')
  obtain rfl := Option.some.inj (ht.symm.trans ht')
  obtain ⟨f, u, v, hcs, -, -⟩ := iface_of_trod Tryz.underlying142 hd
  refine ⟨u, v, ?_⟩
  rw [World.var?_cell hg hvar 0, ← Array.getElem?_toList, hcs]
  rfl

/-- The table of white space. -/
def whiteRT : Lib.RTab := ⟨#[(9, 13, 1), (32, 133, 101), (160, 5760, 5600), (8192, 8202, 1), (8232, 8233, 1), (8239, 8287, 48), (12288, 12288, 1)], #[], 2⟩
theorem white_data : (Rows.laid_unicode_White_Space : DataW Unit) = Lib.rtabData whiteRT := by kernel_rfl
theorem rextra : RExtra Tryz.prog Tryz.lays261_ren := ⟨by kernel_rfl, by kernel_rfl, by kernel_rfl, by kernel_rfl, by kernel_rfl, by kernel_rfl, by kernel_rfl, by kernel_rfl⟩
theorem tab_exact {W : World} {T : Lib.RTab} {name : String} {g : Nat} (hn : Tryz.prog.globalNamed name = some g) (hy : (Tryz.prog.globals[g]?).map (·.type) = some 200) (hp : 0 < T.r16.size) (h0 : T.r32.size = 0)
    (h : Lib.VarReads Tryz.prog W name (Lib.rtabData T)) :
    ∃ Tb oT R o, W.cell? ⟨g, 0, none⟩ = some (.pointer (some ⟨Tb, oT, none⟩)) ∧ W.cell? ⟨Tb, oT, none⟩ = some (.slice (some ⟨R, o, none⟩) T.r16.size T.r16.size) ∧
      W.cell? ⟨Tb, oT + 1, none⟩ = some (.slice none 0 0) ∧ W.cell? ⟨Tb, oT + 2, none⟩ = some (.int .i64 T.off) ∧ Lib.RgTab .u16 R o T.r16 W := by
  have hv := rvar_of_reads Tryz.lays261 rextra hn hy h
  obtain ⟨Tb, oT, k0, a16, a32, R16, o16, c16, R32, o32, c32, k1, k2, k3, e16, e32, t16, t32, hc16⟩ := hv
  obtain ⟨g', t', cs, fuel, p, hg', ht', hvar, hd⟩ := h
  obtain rfl := Option.some.inj (hn.symm.trans hg')
  obtain rfl := Option.some.inj (hy.symm.trans ht')
  obtain ⟨f2, a, cs', q, hcs, hcells, h2, -⟩ := ptr_of_trod Tryz.underlying200 hd
  have hk := World.var?_cell hn hvar 0
  rw [← Array.getElem?_toList, hcs] at hk
  have hk2 : W.cell? ⟨g, 0, none⟩ = some (.pointer (some a)) := hk
  have ha : a = ⟨Tb, oT, none⟩ := (Option.some.inj (Value.pointer.inj (Option.some.inj (k0.symm.trans hk2)))).symm
  subst ha
  rw [show Tryz.prog.cellsOf 220 = 3 by kernel_rfl] at hcells
  obtain ⟨_, hl', hc'⟩ := World.cells?_some hcells
  obtain ⟨xs, n', rfl, hxs, _, hxl, hall⟩ := DataW.trod_struct Tryz.underlying220 h2
  have hx3 : xs.map (·.1) = [Lib.rgSlice .u16 T.r16, Lib.rgSlice .u32 T.r32, .lit (.int .i64 T.off)] := by
    have := congrArg Prod.fst hxs
    simpa using this.symm
  obtain ⟨x0, x1, x2, rfl⟩ : ∃ x0 x1 x2, xs = [x0, x1, x2] := by
    match xs, hx3 with
    | [x0, x1, x2], _ => exact ⟨x0, x1, x2, rfl⟩
  simp only [List.map_cons, List.map_nil, List.cons.injEq, and_true] at hx3
  obtain ⟨e0, e1, -⟩ := hx3
  have f0 := hall 0 _ rfl
  have f1 := hall 1 _ rfl
  change DataW.trod _ _ _ _ _ _ _ (Tryz.lays261_ren.t 193) ((cs'.drop 0).take (Tryz.prog.cellsOf (Tryz.lays261_ren.t 193))) = some x0 at f0
  change DataW.trod _ _ _ _ _ _ _ (Tryz.lays261_ren.t 194) ((cs'.drop 1).take (Tryz.prog.cellsOf (Tryz.lays261_ren.t 194))) = some x1 at f1
  rw [rextra.c193] at f0
  rw [rextra.c194] at f1
  have atk : ∀ {k : Nat} {v : Value}, (cs'.drop k).take 1 = [v] → cs'[k]? = some v := fun {k v} hh => by
    have := congrArg (·[0]?) hh
    simpa [List.getElem?_take, List.getElem?_drop] using this
  have A0 := hc' 0 (by omega)
  have A1 := hc' 1 (by omega)
  rw [Addr.add_lit] at A0 A1
  rw [Nat.add_zero, k1] at A0
  rw [k2] at A1
  have hc : c16 = T.r16.size := by
    rcases DataW.trod_slice Tryz.lays261.t193 f0 with ⟨hcs, hx'⟩ | ⟨a', len, cap, el, rs, m, rfl, hc0, hx', _, hlc, _, hel, helem, hsp, _⟩
    · rw [hx', Lib.rgSlice, if_neg (by omega)] at e0
      cases e0
    · have hv := A0.trans (atk hc0)
      rw [hx', Lib.rgSlice, if_neg (by omega)] at e0
      have hz : rs = [] := List.map_eq_nil_iff.1 (DataW.slice.inj e0).2
      have hs := (hsp rfl).1
      rw [hz] at hs
      simp only [List.length_nil] at hs
      obtain ⟨-, hv1, hv2⟩ := Value.slice.inj (Option.some.inj hv)
      omega
  have hd : a32 = none ∧ c32 = 0 := by
    rcases DataW.trod_slice Tryz.lays261.t194 f1 with ⟨hcs, hx'⟩ | ⟨a', len, cap, el, rs, m, rfl, hc0, hx', _, hlc, _, hel, helem, hsp, _⟩
    · have hv := A1.trans (atk hcs)
      obtain ⟨hv0, -, hv2⟩ := Value.slice.inj (Option.some.inj hv)
      exact ⟨hv0, hv2⟩
    · rw [hx', Lib.rgSlice, if_pos h0] at e1
      cases e1
  obtain ⟨rfl, rfl⟩ := hd
  rw [hc, e16 hp] at k1
  rw [h0] at k2
  exact ⟨Tb, oT, R16, o16, k0, k1, k2, k3, t16⟩
theorem white_of_reads {W : World} (h : Lib.VarReads Tryz.prog W "unicode.White_Space" Rows.laid_unicode_White_Space) : Lib.WhiteTab 3 W := by
  rw [white_data] at h
  obtain ⟨Tb, oT, R, o, k0, k1, k2, k3, t⟩ := tab_exact gWhite gWhiteT (by decide) rfl h
  refine ⟨Tb, oT, R, o, k0, k1, k2, k3, fun i hi => ?_⟩
  have hall : ∀ j, j < 7 → W.cell? ⟨R, o + j * 3, none⟩ = some (.int .u16 (Lib.whiteT.getD (j * 3) 0)) ∧ W.cell? ⟨R, o + j * 3 + 1, none⟩ = some (.int .u16 (Lib.whiteT.getD (j * 3 + 1) 0)) ∧ W.cell? ⟨R, o + j * 3 + 2, none⟩ = some (.int .u16 (Lib.whiteT.getD (j * 3 + 2) 0)) := by
    intro j hj
    have hh := t j hj
    have : j = 0 ∨ j = 1 ∨ j = 2 ∨ j = 3 ∨ j = 4 ∨ j = 5 ∨ j = 6 := by omega
    rcases this with rfl | rfl | rfl | rfl | rfl | rfl | rfl <;> exact hh
  have hh := hall (i / 3) (by omega)
  have hm : i % 3 = 0 ∨ i % 3 = 1 ∨ i % 3 = 2 := by omega
  rcases hm with hm | hm | hm
  · have := hh.1
    rw [show i / 3 * 3 = i by omega] at this
    exact this
  · have := hh.2.1
    rw [show o + i / 3 * 3 + 1 = o + i by omega, show i / 3 * 3 + 1 = i by omega] at this
    exact this
  · have := hh.2.2
    rw [show o + i / 3 * 3 + 2 = o + i by omega, show i / 3 * 3 + 2 = i by omega] at this
    exact this
theorem env_of_laid {l : List (String × DataW Unit)} {W : World} (hp : (l.all fun x => x.2.handleName?.isNone) = true) (h : laidMetH Tryz.prog l W)
    (h1 : ("deliberation/rulebase.premiseWords", Rows.laid_deliberation_rulebase_premiseWords) ∈ l) (h2 : ("strings.asciiSpace", Rows.laid_strings_asciiSpace) ∈ l) (h3 : ("strconv.ErrSyntax", Rows.laid_strconv_ErrSyntax) ∈ l) (h4 : ("strconv.ErrRange", Rows.laid_strconv_ErrRange) ∈ l) (h5 : ("unicode.White_Space", Rows.laid_unicode_White_Space) ∈ l) : EnvOk W := by
  rw [MakeChecks.laidMetH_plain _ _ _ hp] at h
  obtain ⟨ps, hv, -, -⟩ := h
  refine ⟨words_of_reads (Lib.LaidVars_reads hv _ _ h1), iface_of_reads gErrS gErrST (Lib.LaidVars_reads hv _ _ h3), iface_of_reads gErrR gErrRT (Lib.LaidVars_reads hv _ _ h4), ?_, white_of_reads (Lib.LaidVars_reads hv _ _ h5)⟩
  obtain ⟨g', t', cs, fuel, p, hg', ht', hvar, hd⟩ := Lib.LaidVars_reads hv _ _ h2
  obtain rfl := Option.some.inj (gAscii.symm.trans hg')
  obtain rfl := Option.some.inj (gAsciiT.symm.trans ht')
  have e : (Rows.laid_strings_asciiSpace : DataW Unit) = Lib.tabData .u8 Lib.asciiSpaceTab := by kernel_rfl
  rw [e] at hd
  unfold Lib.TabIs
  rw [hvar, ← Lib.cells_of_tab Tryz.underlying171 Tryz.underlying5 cellsu8 cells256 hd]

/-- A start for the witness. -/
theorem witness_row_shaped {H : Type} {enc : TypeId × Value → H} {C : Checked} {os : Os} {f : FuncId} {fn : Func} {s : OpenSpec} {conds : List PathCond} {apart : Bool} {laid : List (String × DataW Unit)} (modest : Bool) (w0 : World) (args : Array Value) (hos : w0.os = os)
    (hsh : (w0.forCall (fun _ _ => 0) ⟨#[], args, []⟩).Shaped C.prog) (hok : Input.okWideB C.prog (w0.forCall (fun _ _ => 0) ⟨#[], args, []⟩) f ⟨#[], args, []⟩ = true)
    (hrow : s.preRow enc C.prog fn conds apart laid (w0.forCall (fun _ _ => 0) ⟨#[], args, []⟩).memory args) :
    ∃ (w : World) (tape : Tape) (i : Input), w.os = os ∧ (w.forCall tape i).Shaped C.prog ∧ i.vars = [] ∧ Input.okWide C.prog (w.forCall tape i) .any w.heap.size f i ∧
      s.preRow enc C.prog fn conds apart laid (w.forCall tape i).memory i.args ∧ ({ modest := modest } : Assume).holds C.prog (lone (Frame.enter C.prog f i.args .normal) [] (w.forCall tape i)) :=
  ⟨w0, fun _ _ => 0, ⟨#[], args, []⟩, hos, hsh, (Input.okWide_of_okWideB (base := 0) hok).1, (Input.okWide_of_okWideB hok).2, hrow, by
    simp only [Assume.holds]
    exact ⟨by simp, by simp, fun _ => Modest.zero, by simp, by simp⟩⟩
end Go.Proofs.YtmhloapjadhifaaGreatDoor
