/- The lines of the reference's text are the program's. The reference's Format gives the program's text and error. The reference's Format, whole. -/
import Derived.Test.YtfcoplplkbeljaaGreatDoorZ1G
import Derived.Test.YtfcoplplkbeljaaGreatDoorZ1Q
import Derived.Test.YtfcoplplkbeljaaGreatDoorZ1R
import Derived.Test.YtfcoplplkbeljaaGreatDoorIn

namespace Go.Proofs.YtfcoplplkbeljaaGreatDoor
set_option linter.unusedVariables false
set_option linter.unusedSimpArgs false
open Go Go.RowKit

theorem bytes_ext5 {a b : ByteArray} (h : a.data.toList = b.data.toList) : a = b := by
  apply ByteArray.ext
  exact Array.toList_inj.1 h
theorem bytes_app5 (a b : ByteArray) : (a ++ b).data.toList = a.data.toList ++ b.data.toList := by
  rw [ByteArray.data_append, Array.toList_append]

/-- What the reference has of a rule's body behind the first k literals. -/
def rbT (xs : List Lt) (k : Nat) : ByteArray := if k = 0 then ⟨#[]⟩ else ⟨#[32]⟩ ++ joinT ⟨#[44, 32]⟩ ((xs.take k).map litT)
theorem join_snoc5 (l : List (List UInt8)) (hl : l ≠ []) (y sep : List UInt8) : Lib.join (l ++ [y]) sep = Lib.join l sep ++ sep ++ y := by
  cases l with
  | nil => exact absurd rfl hl
  | cons x r =>
    rw [List.cons_append, Lib.join_cons, Lib.join_cons]
    unfold Lib.joinTail
    simp [List.append_assoc]
theorem rbT_zero (xs : List Lt) (x : Lt) (h : xs[0]? = some x) : rbT xs 1 = rbT xs 0 ++ ⟨#[32]⟩ ++ litT x := by
  apply bytes_ext5
  unfold rbT joinT
  cases xs with
  | nil => cases h
  | cons y r =>
    injection h with h
    subst h
    simp [Lib.join_one, bytes_app5]
theorem rbT_succ (xs : List Lt) (k : Nat) (hk : 0 < k) (h : k < xs.length) : rbT xs (k + 1) = rbT xs k ++ ⟨#[44]⟩ ++ ⟨#[32]⟩ ++ litT xs[k] := by
  apply bytes_ext5
  unfold rbT joinT
  rw [if_neg (by omega), if_neg (by omega), List.take_succ_eq_append_getElem h, List.map_append, List.map_append]
  simp only [List.map_cons, List.map_nil, bytes_app5]
  rw [join_snoc5 _ (by
    intro e
    have h2 := congrArg List.length e
    rw [List.length_map, List.length_map, List.length_take, List.length_nil] at h2
    omega)]
  simp [List.append_assoc]
theorem rbT_body (xs : List Lt) : (⟨#[58]⟩ : ByteArray) ++ rbT xs xs.length ++ ⟨#[32]⟩ = ⟨#[58, 32]⟩ ++ bodyT xs := by
  unfold rbT bodyT
  by_cases h0 : xs.length = 0
  · rw [if_pos h0, if_pos h0]; rfl
  · rw [if_neg h0, if_neg h0, List.take_length]
    apply bytes_ext5
    simp only [bytes_app5]
    simp
theorem rbT_size (xs : List Lt) (hx : ∀ x ∈ xs, x.name.size ≤ 12) : ∀ k, k ≤ xs.length → (rbT xs k).size ≤ 15 * k
  | 0, _ => by unfold rbT; rw [if_pos rfl]; exact Nat.le_refl _
  | k + 1, h => by
    have ih := rbT_size xs hx k (by omega)
    have hl := lit_size (hx _ (List.getElem_mem (by omega : k < xs.length)))
    by_cases h0 : k = 0
    · subst h0
      rw [rbT_zero xs xs[0] (List.getElem?_eq_getElem (by omega)), ByteArray.size_append, ByteArray.size_append]
      have e : (⟨#[32]⟩ : ByteArray).size = 1 := rfl
      omega
    · rw [rbT_succ xs k (by omega) (by omega), ByteArray.size_append, ByteArray.size_append, ByteArray.size_append]
      have e : (⟨#[32]⟩ : ByteArray).size = 1 := rfl
      have e' : (⟨#[44]⟩ : ByteArray).size = 1 := rfl
      omega

theorem r5digit_any (n : Nat) (hn : n < 10) (w : World) : Calls Tryz.prog 90 #[.int .i64 (n : Int)] w fun e w' => e = .returned (.string (digT n)) ∧ w' = w := by
  have hd : digT n = (⟨#[48, 49, 50, 51, 52, 53, 54, 55, 56, 57]⟩ : ByteArray).extract n (n + 1) := by
    unfold digT
    rw [Lib.decDigits_one hn]
    have h : ∀ m : Fin 10, (⟨([UInt8.ofNat (48 + m.val)] : List UInt8).toArray⟩ : ByteArray) = (⟨#[48, 49, 50, 51, 52, 53, 54, 55, 56, 57]⟩ : ByteArray).extract m.val (m.val + 1) := by decide
    exact h ⟨n, hn⟩
  rw [hd]
  have hcase : n = 0 ∨ n = 1 ∨ n = 2 ∨ n = 3 ∨ n = 4 ∨ n = 5 ∨ n = 6 ∨ n = 7 ∨ n = 8 ∨ n = 9 := by omega
  clear hd hn
  rcases hcase with rfl | rfl | rfl | rfl | rfl | rfl | rfl | rfl | rfl | rfl
  all_goals (
    go_enter Tryz.func90, Tryz.ntmps90
    go_wp2_with fail
    go_ret
    exact ⟨rfl, rfl⟩)

/-- " from " and the source, or nothing. -/
def srcT (s : ByteArray) : ByteArray := if s.size = 0 then ⟨#[]⟩ else ⟨#[32, 102, 114, 111, 109, 32]⟩ ++ s
theorem srcT_size (s : ByteArray) (h : s.size ≤ 12) : (srcT s).size ≤ 18 := by
  unfold srcT
  split
  · exact Nat.zero_le _
  · rw [ByteArray.size_append]
    have e : (⟨#[32, 102, 114, 111, 109, 32]⟩ : ByteArray).size = 6 := rfl
    omega
set_option maxRecDepth 100000 in
theorem r5source_any (g : Bool) (nm : ByteArray) (kd rk : Int) (s : ByteArray) (hs : s.size ≤ 12) (w : World) :
    Calls Tryz.prog 89 #[.agg #[.bool g, .string nm, .int .i64 kd, .int .i64 rk, .string s]] w fun e w' => e = .returned (.string (srcT s)) ∧ Below w.heap.size w w' := by
  have HB := hidIt (bgrow w (.cells #[.bool g, .string nm, .int .i64 kd, .int .i64 rk, .string s] 74))
  have hse : s.size = s.toList.length := by rw [Lib.toList_data, Array.length_toList]; rfl
  by_cases h0 : s.size = 0
  · have hl0 : s.toList = [] := List.eq_nil_of_length_eq_zero (by omega)
    have hle : s.toList.isEmpty = true := by rw [hl0]; rfl
    have HT : Hid (srcT s = ⟨#[]⟩) := by show _ = _; unfold srcT; rw [if_pos h0]
    clear hse h0
    go_enter Tryz.func89, Tryz.ntmps89
    go_wp2_with fail
    go_ret
    exact ⟨ret_str HT.out.symm, HB.out⟩
  · have hl0 : ¬ s.toList = [] := fun h => h0 (by rw [hse, h]; rfl)
    have hle : s.toList.isEmpty = false := by
      cases hc : s.toList with
      | nil => exact absurd hc hl0
      | cons a l => rfl
    have HT : Hid (srcT s = ⟨#[32, 102, 114, 111, 109, 32]⟩ ++ s) := by show _ = _; unfold srcT; rw [if_neg h0]
    have q1 : ¬ 9223372036854775807 < 6 + s.size := by omega
    clear hse h0
    go_enter Tryz.func89, Tryz.ntmps89
    go_wp2_with fail
    go_ret
    exact ⟨ret_str HT.out.symm, HB.out⟩

theorem premT_ref (p : Pm) (n : Nat) (hk : p.kind = 1 ∨ p.kind = 2 ∨ p.kind = 3) : premT p n =
    (if p.kind = 1 then (⟨#[97, 120, 105, 111, 109, 32]⟩ : ByteArray) ++ litT p.lit ++ srcT p.src else if p.kind = 2 then (⟨#[112, 114, 101, 109, 105, 115, 101, 32]⟩ : ByteArray) ++ litT p.lit ++ ⟨#[32]⟩ ++ digT n ++ srcT p.src else (⟨#[97, 115, 115, 117, 109, 101, 32]⟩ : ByteArray) ++ litT p.lit ++ srcT p.src) := by
  apply bytes_ext5
  unfold premT premT1 premT0 wordT srcT
  rcases hk with h | h | h <;> rw [h] <;> by_cases h0 : p.src.size = 0 <;> simp [h0, bytes_app5]
end Go.Proofs.YtfcoplplkbeljaaGreatDoor

namespace Go.Proofs.YtfcoplplkbeljaaGreatDoor
set_option linter.unusedVariables false
set_option linter.unusedSimpArgs false
open Go Go.RowKit

set_option maxRecDepth 100000 in
set_option maxHeartbeats 4000000 in
theorem r5premLine_any (p : Pm) (n : Nat) (hn : n < 10) (hr : p.rank = (n : Int)) (h1 : p.src.size ≤ 12) (h2 : p.lit.name.size ≤ 12) (hk : p.kind = 1 ∨ p.kind = 2 ∨ p.kind = 3) (w : World) :
    Calls Tryz.prog 45 #[.agg #[.bool p.lit.neg, .string p.lit.name, .int .i64 p.kind, .int .i64 p.rank, .string p.src]] w fun e w' => e = .returned (.string (premT p n)) ∧ Below w.heap.size w w' := by
  have HT := hidIt (premT_ref p n hk)
  obtain ⟨⟨g, s⟩, kd, rk, sr⟩ := p
  simp only at hr h1 h2 hk HT ⊢
  subst hr
  generalize premT ⟨⟨g, s⟩, kd, n, sr⟩ n = T at *
  have hgr := bgrow w (.cells #[.bool g, .string s, .int .i64 kd, .int .i64 (n : Int), .string sr] 74)
  have HB := hidIt hgr
  have HK := hidIt (heap_alloc_new w (.cells #[.bool g, .string s, .int .i64 kd, .int .i64 (n : Int), .string sr] 74))
  have hds := dig_size n hn
  have hls := lit_size (x := ⟨g, s⟩) h2
  have hss := srcT_size sr h1
  have HM : Hid (∀ wx : World, Calls Tryz.prog 88 #[.agg #[.bool g, .string s]] wx fun e w' => e = .returned (.string (litT ⟨g, s⟩)) ∧ Below wx.heap.size wx w') := fun wx => rFormat_any g s wx (Nat.le_trans h2 (by unfold maxLen; omega))
  have HD : Hid (∀ wx : World, Calls Tryz.prog 90 #[.int .i64 (n : Int)] wx fun e w' => e = .returned (.string (digT n)) ∧ Below wx.heap.size wx w') := fun wx => (r5digit_any n hn wx).mono fun e w' ⟨he, hw⟩ => ⟨he, by rw [hw]; exact Below.refl _ _⟩
  have HS : Hid (∀ wx : World, Calls Tryz.prog 89 #[.agg #[.bool g, .string s, .int .i64 kd, .int .i64 (n : Int), .string sr]] wx fun e w' => e = .returned (.string (srcT sr)) ∧ Below wx.heap.size wx w') := fun wx => r5source_any g s kd n sr h1 wx
  generalize digT n = d at *
  generalize litT ⟨g, s⟩ = t at *
  generalize srcT sr = u at *
  have q1 : ¬ 9223372036854775807 < 6 + t.size := by omega
  have q2 : ¬ 9223372036854775807 < 6 + t.size + u.size := by omega
  have q3 : ¬ 9223372036854775807 < 7 + t.size := by omega
  have q4 : ¬ 9223372036854775807 < 7 + t.size + u.size := by omega
  have q5 : ¬ 9223372036854775807 < 8 + t.size := by omega
  have q6 : ¬ 9223372036854775807 < 8 + t.size + 1 := by omega
  have q7 : ¬ 9223372036854775807 < 8 + t.size + 1 + d.size := by omega
  have q8 : ¬ 9223372036854775807 < 8 + t.size + 1 + d.size + u.size := by omega
  clear hgr hds hls hss h1 h2
  obtain ⟨p0, p1, p2, p3, p4⟩ := bcell5 HK.out
  have lp := lt_of_block HK.out
  rcases hk with rfl | rfl | rfl
  · go_enter Tryz.func45, Tryz.ntmps45
    go_wp2_with fail
    refine (HM.out _).mono ?_
    rintro e w1 ⟨rfl, hb1⟩
    have HB1 := hidIt (HB.out.trans (Below.mono hb1 HB.out.size))
    have hK1 := blk_kept2 HK.out hb1
    clear p0 p1 p2 p3 p4 lp hb1
    obtain ⟨p0, p1, p2, p3, p4⟩ := bcell5 hK1
    have lp := lt_of_block hK1
    clear hK1
    go_wp2_with fail
    refine (HS.out _).mono ?_
    rintro e w2 ⟨rfl, hb2⟩
    have HB2 := hidIt (HB1.out.trans (Below.mono hb2 HB1.out.size))
    clear hb2
    go_wp2_with fail
    go_ret
    exact ⟨ret_str (by rw [HT.out]; rfl), HB2.out⟩
  · go_enter Tryz.func45, Tryz.ntmps45
    go_wp2_with fail
    refine (HM.out _).mono ?_
    rintro e w1 ⟨rfl, hb1⟩
    have HB1 := hidIt (HB.out.trans (Below.mono hb1 HB.out.size))
    have hK1 := blk_kept2 HK.out hb1
    clear p0 p1 p2 p3 p4 lp hb1
    obtain ⟨p0, p1, p2, p3, p4⟩ := bcell5 hK1
    have lp := lt_of_block hK1
    clear hK1
    go_wp2_with fail
    have K0 := fun y => Ext.cell p0 y
    have K1 := fun y => Ext.cell p1 y
    have K2 := fun y => Ext.cell p2 y
    have K3 := fun y => Ext.cell p3 y
    have K4 := fun y => Ext.cell p4 y
    have LK := fun y : In (Ext w1) => Nat.lt_of_lt_of_le lp (Below.size y.h)
    haveI := Ext.nonempty w1
    refine wp_region_in (Ext w1) (by kernel_rfl) (by kernel_rfl) (Ext.start w1) ?_
    repeat (go_big_quiet_step (first | (go_at_call 90; refine Ext.call (HD.out _)) | (go_at_call 89; refine Ext.call (HS.out _))))
    refine wpQuiet_nil ?_
    rintro w2 ⟨⟨_, h2⟩, rfl⟩
    have HB2 : Hid (Below w.heap.size w w2) := HB1.out.trans (Below.mono h2 HB1.out.size)
    clear h2 K0 K1 K2 K3 K4 LK
    go_wp2_with fail
    go_ret
    exact ⟨ret_str (by rw [HT.out]; rfl), HB2.out⟩
  · go_enter Tryz.func45, Tryz.ntmps45
    go_wp2_with fail
    refine (HM.out _).mono ?_
    rintro e w1 ⟨rfl, hb1⟩
    have HB1 := hidIt (HB.out.trans (Below.mono hb1 HB.out.size))
    have hK1 := blk_kept2 HK.out hb1
    clear p0 p1 p2 p3 p4 lp hb1
    obtain ⟨p0, p1, p2, p3, p4⟩ := bcell5 hK1
    have lp := lt_of_block hK1
    clear hK1
    go_wp2_with fail
    refine (HS.out _).mono ?_
    rintro e w2 ⟨rfl, hb2⟩
    have HB2 := hidIt (HB1.out.trans (Below.mono hb2 HB1.out.size))
    clear hb2
    go_wp2_with fail
    go_ret
    exact ⟨ret_str (by rw [HT.out]; rfl), HB2.out⟩

set_option maxRecDepth 100000 in
set_option maxHeartbeats 4000000 in
theorem r5promLine_any (p : Pr) (n : Nat) (hn : n < 10) (hr : p.rank = (n : Int)) (h1 : p.rule.size ≤ 12) (h2 : p.lit.name.size ≤ 12) (w : World) :
    Calls Tryz.prog 47 #[.agg #[.string p.rule, .int .i64 p.rank, .bool p.lit.neg, .string p.lit.name]] w fun e w' => e = .returned (.string (promT p n)) ∧ Below w.heap.size w w' := by
  obtain ⟨rl, rk, ⟨g, s⟩⟩ := p
  simp only at hr h1 h2 ⊢
  subst hr
  have HT : Hid (promT ⟨rl, n, ⟨g, s⟩⟩ n = ⟨#[112, 114, 111, 109, 111, 116, 101, 32]⟩ ++ rl ++ ⟨#[32]⟩ ++ digT n ++ ⟨#[32, 105, 102, 32]⟩ ++ litT ⟨g, s⟩) := by show _ = _; rfl
  generalize promT ⟨rl, n, ⟨g, s⟩⟩ n = T at *
  have HB := hidIt (bgrow w (.cells #[.string rl, .int .i64 (n : Int), .bool g, .string s] 78))
  have HK := hidIt (heap_alloc_new w (.cells #[.string rl, .int .i64 (n : Int), .bool g, .string s] 78))
  have hds := dig_size n hn
  have hls := lit_size (x := ⟨g, s⟩) h2
  have HM : Hid (∀ wx : World, Calls Tryz.prog 88 #[.agg #[.bool g, .string s]] wx fun e w' => e = .returned (.string (litT ⟨g, s⟩)) ∧ Below wx.heap.size wx w') := fun wx => rFormat_any g s wx (Nat.le_trans h2 (by unfold maxLen; omega))
  have HD : Hid (∀ wx : World, Calls Tryz.prog 90 #[.int .i64 (n : Int)] wx fun e w' => e = .returned (.string (digT n)) ∧ Below wx.heap.size wx w') := fun wx => (r5digit_any n hn wx).mono fun e w' ⟨he, hw⟩ => ⟨he, by rw [hw]; exact Below.refl _ _⟩
  generalize digT n = d at *
  generalize litT ⟨g, s⟩ = t at *
  have q1 : ¬ 9223372036854775807 < 8 + rl.size := by omega
  have q2 : ¬ 9223372036854775807 < 8 + rl.size + 1 := by omega
  have q3 : ¬ 9223372036854775807 < 8 + rl.size + 1 + d.size := by omega
  have q4 : ¬ 9223372036854775807 < 8 + rl.size + 1 + d.size + 4 := by omega
  have q5 : ¬ 9223372036854775807 < 8 + rl.size + 1 + d.size + 4 + t.size := by omega
  clear hds hls h1 h2
  go_enter Tryz.func47, Tryz.ntmps47
  go_wp2_with fail
  generalize (w.alloc (.cells #[.string rl, .int .i64 (n : Int), .bool g, .string s] 78)) = w1 at *
  obtain ⟨p0, p1, p2, p3⟩ := bcell4 HK.out
  have lp := lt_of_block HK.out
  have K0 := fun y => Ext.cell p0 y
  have K1 := fun y => Ext.cell p1 y
  have K2 := fun y => Ext.cell p2 y
  have K3 := fun y => Ext.cell p3 y
  have LK := fun y : In (Ext w1) => Nat.lt_of_lt_of_le lp (Below.size y.h)
  haveI := Ext.nonempty w1
  refine wp_region_in (Ext w1) (by kernel_rfl) (by kernel_rfl) (Ext.start w1) ?_
  repeat (go_big_quiet_step (first | (go_at_call 90; refine Ext.call (HD.out _)) | (go_at_call 88; refine Ext.call (HM.out _))))
  refine wpQuiet_nil ?_
  rintro w2 ⟨⟨_, h2⟩, rfl⟩
  have HB2 : Hid (Below w.heap.size w w2) := HB.out.trans (Below.mono h2 HB.out.size)
  clear h2 K0 K1 K2 K3 LK
  go_wp2_with fail
  go_ret
  exact ⟨ret_str (by rw [HT.out]), HB2.out⟩

theorem ruleT_ref (r : Ru) (n : Nat) : ruleT r n = (if r.strict then (⟨#[115, 116, 114, 105, 99, 116, 32]⟩ : ByteArray) ++ r.name ++ ⟨#[58]⟩ ++ rbT r.body r.body.length ++ ⟨#[32, 45, 62, 32]⟩ ++ litT r.head else (⟨#[114, 117, 108, 101, 32]⟩ : ByteArray) ++ r.name ++ ⟨#[32]⟩ ++ digT n ++ ⟨#[58]⟩ ++ rbT r.body r.body.length ++ ⟨#[32, 61, 62, 32]⟩ ++ litT r.head) := by
  have h := congrArg (fun x : ByteArray => x.data.toList) (rbT_body r.body)
  simp only [bytes_app5] at h
  apply bytes_ext5
  unfold ruleT
  cases r.strict
  · simp only [Bool.false_eq_true, if_false, bytes_app5]
    have e : ([32, 61, 62, 32] : List UInt8) = [32] ++ ([61, 62] ++ [32]) := rfl
    rw [e]
    simp only [List.append_assoc] at h ⊢
    rw [← List.append_assoc ([58, 32] : List UInt8), ← h]
    simp only [List.append_assoc]
  · simp only [if_true, bytes_app5]
    have e : ([32, 45, 62, 32] : List UInt8) = [32] ++ ([45, 62] ++ [32]) := rfl
    rw [e]
    simp only [List.append_assoc] at h ⊢
    rw [← List.append_assoc ([58, 32] : List UInt8), ← h]
    simp only [List.append_assoc]

set_option maxRecDepth 100000 in
set_option maxHeartbeats 8000000 in
theorem r5ruleLine_any (r : Ru) (n : Nat) (hn : n < 10) (hr : r.rank = (n : Int)) (h1 : r.name.size ≤ 12) (h2 : r.head.name.size ≤ 12) (h3 : ∀ x ∈ r.body, x.name.size ≤ 12) (h4 : r.body.length ≤ 5000) (a : Option Addr) (cap : Nat) (w : World) (hv : BodyAt w (.slice a r.body.length cap) r.body) :
    Calls Tryz.prog 46 #[.agg #[.string r.name, .bool r.strict, .int .i64 r.rank, .slice a r.body.length cap, .bool r.head.neg, .string r.head.name]] w fun e w' => e = .returned (.string (ruleT r n)) ∧ Below w.heap.size w w' := by
  have HT := hidIt (ruleT_ref r n)
  obtain ⟨nm, st, rk, xs, ⟨hg, hs⟩⟩ := r
  simp only at hr h1 h2 h3 h4 hv HT ⊢
  subst hr
  generalize ruleT ⟨nm, st, n, xs, ⟨hg, hs⟩⟩ n = T at *
  have hgr := bgrow w (.cells #[.string nm, .bool st, .int .i64 (n : Int), .slice a xs.length cap, .bool hg, .string hs] 64)
  have HB := hidIt hgr
  have HK := hidIt (heap_alloc_new w (.cells #[.string nm, .bool st, .int .i64 (n : Int), .slice a xs.length cap, .bool hg, .string hs] 64))
  obtain ⟨a', cap', ea, -, -, hrow⟩ := hv.form
  injection ea with ea eb ec
  subst ea ec
  have HR := hidIt hrow
  have hds := dig_size n hn
  have hls := lit_size (x := ⟨hg, hs⟩) h2
  have HX := hidIt h3
  have hrs := rbT_size xs h3 xs.length (Nat.le_refl _)
  have HSZ := hidIt (rbT_size xs h3)
  have HM : Hid (∀ wx : World, Calls Tryz.prog 88 #[.agg #[.bool hg, .string hs]] wx fun e w' => e = .returned (.string (litT ⟨hg, hs⟩)) ∧ Below wx.heap.size wx w') := fun wx => rFormat_any hg hs wx (Nat.le_trans h2 (by unfold maxLen; omega))
  have HD : Hid (∀ wx : World, Calls Tryz.prog 90 #[.int .i64 (n : Int)] wx fun e w' => e = .returned (.string (digT n)) ∧ Below wx.heap.size wx w') := fun wx => (r5digit_any n hn wx).mono fun e w' ⟨he, hw⟩ => ⟨he, by rw [hw]; exact Below.refl _ _⟩
  generalize digT n = d at *
  generalize litT ⟨hg, hs⟩ = t at *
  have hl1 : xs.length ≤ 9223372036854775807 := by omega
  clear hgr hrow hv h2 h3 hrs
  go_enter Tryz.func46, Tryz.ntmps46
  go_wp2_with fail
  generalize (w.alloc (.cells #[.string nm, .bool st, .int .i64 (n : Int), .slice a xs.length cap, .bool hg, .string hs] 64)) = w0 at *
  go_loopw [3, 4] (fun v i wr => ∃ k : Nat, k ≤ xs.length ∧ i = .int .i64 k ∧ v = .string (rbT xs k) ∧ Hid (Below w0.heap.size w0 wr)) (fun _ i _ => xs.length - (intOf i).toNat)
  case atStart => exact ⟨0, Nat.zero_le _, rfl, rfl, Below.refl _ _⟩
  case round =>
    obtain ⟨k, hk, rfl, rfl, HBr⟩ := hrel
    have hK := blk_kept2 HK.out HBr.out
    obtain ⟨p0, p1, p2, p3, p4, p5⟩ := bcell6 hK
    have lp := lt_of_block hK
    have hKH := hidIt hK
    clear hK
    by_cases hlt : k < xs.length
    · obtain ⟨b, off, rfl, hbl, c0', c1'⟩ := HR.out k hlt
      have hbl0 := Nat.lt_of_lt_of_le hbl HB.out.size
      have c0 := (HBr.out.cell (p := ⟨b, off + k * 2, none⟩) hbl0).trans ((HB.out.cell (p := ⟨b, off + k * 2, none⟩) hbl).trans c0')
      have c1 := (HBr.out.cell (p := ⟨b, off + k * 2 + 1, none⟩) hbl0).trans ((HB.out.cell (p := ⟨b, off + k * 2 + 1, none⟩) hbl).trans c1')
      have hm1 := Nat.lt_of_lt_of_le hbl0 HBr.out.size
      have hltI : (k : Int) < (xs.length : Int) := by omega
      have hk0 : (0 : Int) ≤ (k : Int) := by omega
      have hxk := HX.out _ (List.getElem_mem hlt)
      have hlk := lit_size hxk
      have hsk := HSZ.out k hk
      have HMK : Hid (∀ wx : World, Calls Tryz.prog 88 #[.agg #[.bool xs[k].neg, .string xs[k].name]] wx fun e w' => e = .returned (.string (litT xs[k])) ∧ Below wx.heap.size wx w') := fun wx => rFormat_any xs[k].neg xs[k].name wx (Nat.le_trans hxk (by unfold maxLen; omega))
      clear c0' c1' hbl hbl0 hxk
      by_cases h0 : k = 0
      · have HE : Hid (rbT xs (k + 1) = rbT xs k ++ ⟨#[32]⟩ ++ litT xs[k]) := by
          subst h0
          exact rbT_zero xs _ (List.getElem?_eq_getElem hlt)
        have h0I : ¬ (0 : Int) < (k : Int) := by omega
        generalize rbT xs k = T0 at *
        generalize litT xs[k] = tk at *
        have q1 : ¬ 9223372036854775807 < T0.size + 1 := by omega
        have q2 : ¬ 9223372036854775807 < T0.size + 1 + tk.size := by omega
        clear hlk hsk h0
        go_wp2_with fail
        refine (HMK.out _).mono ?_
        rintro e w2 ⟨rfl, hb2⟩
        have HB2 := hidIt (HBr.out.trans (Below.mono hb2 HBr.out.size))
        clear hb2
        go_wp2_with fail
        go_roundw
        case rel => exact ⟨k + 1, by omega, by go_num, by rw [HE.out], HB2.out⟩
        case measure => simp [intOf]; omega
      · have HE : Hid (rbT xs (k + 1) = rbT xs k ++ ⟨#[44]⟩ ++ ⟨#[32]⟩ ++ litT xs[k]) := rbT_succ xs k (by omega) hlt
        have h0I : (0 : Int) < (k : Int) := by omega
        generalize rbT xs k = T0 at *
        generalize litT xs[k] = tk at *
        have q0 : ¬ 9223372036854775807 < T0.size + 1 := by omega
        have q1 : ¬ 9223372036854775807 < T0.size + 1 + 1 := by omega
        have q2 : ¬ 9223372036854775807 < T0.size + 1 + 1 + tk.size := by omega
        clear hlk hsk h0
        go_wp2_with fail
        refine (HMK.out _).mono ?_
        rintro e w2 ⟨rfl, hb2⟩
        have HB2 := hidIt (HBr.out.trans (Below.mono hb2 HBr.out.size))
        clear hb2
        go_wp2_with fail
        go_roundw
        case rel => exact ⟨k + 1, by omega, by go_num, by rw [HE.out], HB2.out⟩
        case measure => simp [intOf]; omega
    · obtain rfl : k = xs.length := by omega
      have hsk := HSZ.out _ hk
      have HBw := hidIt (HB.out.trans (HBr.out.mono HB.out.size))
      generalize rbT xs xs.length = y at *
      have q1 : ¬ 9223372036854775807 < 5 + nm.size := by omega
      have q2 : ¬ 9223372036854775807 < 5 + nm.size + 1 := by omega
      have q3 : ¬ 9223372036854775807 < 5 + nm.size + 1 + d.size := by omega
      have q4 : ¬ 9223372036854775807 < 5 + nm.size + 1 + d.size + 1 := by omega
      have q5 : ¬ 9223372036854775807 < 5 + nm.size + 1 + d.size + 1 + y.size := by omega
      have q6 : ¬ 9223372036854775807 < 5 + nm.size + 1 + d.size + 1 + y.size + 4 := by omega
      have q7 : ¬ 9223372036854775807 < 5 + nm.size + 1 + d.size + 1 + y.size + 4 + t.size := by omega
      have r1 : ¬ 9223372036854775807 < 7 + nm.size := by omega
      have r2 : ¬ 9223372036854775807 < 7 + nm.size + 1 := by omega
      have r3 : ¬ 9223372036854775807 < 7 + nm.size + 1 + y.size := by omega
      have r4 : ¬ 9223372036854775807 < 7 + nm.size + 1 + y.size + 4 := by omega
      have r5 : ¬ 9223372036854775807 < 7 + nm.size + 1 + y.size + 4 + t.size := by omega
      have hltI : ¬ (xs.length : Int) < (xs.length : Int) := by omega
      clear hsk hlt hds hls h1
      cases st
      · go_wp2_with fail
        have K0 := fun y => Ext.cell p0 y
        have K1 := fun y => Ext.cell p1 y
        have K2 := fun y => Ext.cell p2 y
        have K3 := fun y => Ext.cell p3 y
        have K4 := fun y => Ext.cell p4 y
        have K5 := fun y => Ext.cell p5 y
        have LK := fun y : In (Ext wr) => Nat.lt_of_lt_of_le lp (Below.size y.h)
        haveI := Ext.nonempty wr
        refine wp_region_in (Ext wr) (by kernel_rfl) (by kernel_rfl) (Ext.start wr) ?_
        repeat (go_big_quiet_step (first | (go_at_call 90; refine Ext.call (HD.out _)) | (go_at_call 88; refine Ext.call (HM.out _))))
        refine wpQuiet_nil ?_
        rintro w2 ⟨⟨_, h2⟩, rfl⟩
        have HB2 : Hid (Below w.heap.size w w2) := HBw.out.trans (Below.mono h2 HBw.out.size)
        clear h2 K0 K1 K2 K3 K4 K5 LK
        go_wp2_with fail
        go_ret
        exact ⟨ret_str (by rw [HT.out]; rfl), HB2.out⟩
      · go_wp2_with fail
        have K0 := fun y => Ext.cell p0 y
        have K1 := fun y => Ext.cell p1 y
        have K2 := fun y => Ext.cell p2 y
        have K3 := fun y => Ext.cell p3 y
        have K4 := fun y => Ext.cell p4 y
        have K5 := fun y => Ext.cell p5 y
        have LK := fun y : In (Ext wr) => Nat.lt_of_lt_of_le lp (Below.size y.h)
        haveI := Ext.nonempty wr
        refine wp_region_in (Ext wr) (by kernel_rfl) (by kernel_rfl) (Ext.start wr) ?_
        repeat (go_big_quiet_step (first | (go_at_call 90; refine Ext.call (HD.out _)) | (go_at_call 88; refine Ext.call (HM.out _))))
        refine wpQuiet_nil ?_
        rintro w2 ⟨⟨_, h2⟩, rfl⟩
        have HB2 : Hid (Below w.heap.size w w2) := HBw.out.trans (Below.mono h2 HBw.out.size)
        clear h2 K0 K1 K2 K3 K4 K5 LK
        go_wp2_with fail
        go_ret
        exact ⟨ret_str (by rw [HT.out]; rfl), HB2.out⟩
end Go.Proofs.YtfcoplplkbeljaaGreatDoor

namespace Go.Proofs.YtfcoplplkbeljaaGreatDoor
set_option linter.unusedVariables false
set_option linter.unusedSimpArgs false
open Go Go.RowKit

theorem bytesL_snoc (L : List UInt8) (a : ByteArray) : (⟨(L ++ (a ++ nlT).data.toList).toArray⟩ : ByteArray) = ⟨L.toArray⟩ ++ a ++ ⟨#[10]⟩ := by
  apply bytes_ext5
  rw [bytes_app5, bytes_app5, bytes_app5]
  simp [nlT]
theorem bytesL_size (L : List UInt8) : (⟨L.toArray⟩ : ByteArray).size = L.length := by
  show L.toArray.size = _
  rw [List.size_toArray]

set_option maxRecDepth 100000 in
set_option maxHeartbeats 8000000 in
theorem r5format_any (b : Bs) (hb : BsOk b) (v : Value) (w : World) (hv : BaseAt w v b) :
    Calls Tryz.prog 11 #[v] w fun e w' => e = .returned (.tuple #[.string (fmtT5 b), .int .i64 (fmtE5 b)]) ∧ Below w.heap.size w w' := by
  have HVW := hidIt hv
  obtain ⟨a1, a2, a3, c1, c2, c3, rfl, m1, n1, m2, n2, m3, n3, hp, hr, hq⟩ := hv.form
  have hgr := bgrow w (.cells #[.slice a1 b.prems.length c1, .slice a2 b.rules.length c2, .slice a3 b.proms.length c3] 32)
  have HB0 := hidIt hgr
  have HV0 := hidIt (hv.below hgr)
  have HP0 := hidIt (hp.below hgr)
  have HR0 := hidIt (hr.below hgr)
  have HQ0 := hidIt (hq.below hgr)
  have HK0 := hidIt (heap_alloc_new w (.cells #[.slice a1 b.prems.length c1, .slice a2 b.rules.length c2, .slice a3 b.proms.length c3] 32))
  clear hv hgr hp hr hq m1 n1 m2 n2 m3 n3
  obtain ⟨k0, k1, k2⟩ := bcell3 HK0.out
  have lk := lt_of_block HK0.out
  go_enter Tryz.func11, Tryz.ntmps11
  go_wp2_with fail
  refine (r5validate_any b hb _ _ HV0.out).mono ?_
  rintro e w1 ⟨rfl, hb1⟩
  have HB1 := hidIt (HB0.out.trans (Below.mono hb1 HB0.out.size))
  have HP1 := hidIt (HP0.out.below hb1)
  have HR1 := hidIt (HR0.out.below hb1)
  have HQ1 := hidIt (HQ0.out.below hb1)
  have HK1 := hidIt (blk_kept2 HK0.out hb1)
  clear hb1 k0 k1 k2 lk HK0 HP0 HR0 HQ0 HV0 HB0 HVW
  by_cases hE : baseE b = 0
  case neg =>
    have hEb : (baseE b != 0) = true := by rw [bne_iff_ne]; exact hE
    have HFE : Hid (fmtE5 b = baseE b) := by show _ = _; unfold fmtE5; rw [if_neg hE]
    have HFT : Hid (fmtT5 b = ⟨#[]⟩) := by show _ = _; unfold fmtT5; rw [HFE.out, if_neg hE]
    generalize baseE b = E at *
    clear hE
    go_wp2_with fail
    go_ret2
    exact ⟨by rw [HFE.out, HFT.out]; rfl, HB1.out⟩
  case pos =>
  have HFIT := hidIt (baseE_fit hE)
  have hn1 : b.prems.length ≤ 16 := HFIT.out.2.2.2.1
  have hn2 : b.rules.length ≤ 24 := HFIT.out.2.2.2.2.1
  have hn3 : b.proms.length ≤ 8 := HFIT.out.2.2.2.2.2
  have hFE : fmtE5 b = if 4096 < (textL b).size then 2 else 0 := by unfold fmtE5; rw [if_pos hE]
  have hFT : fmtT5 b = if fmtE5 b = 0 then textL b else ⟨#[]⟩ := rfl
  have HTX : Hid (textL b = ⟨(linesB (b.prems.map premLn) b.prems.length ++ linesB (b.rules.map ruleLn) b.rules.length ++ linesB (b.proms.map promLn) b.proms.length).toArray⟩) := rfl
  have HFE := hidIt hFE
  have HFT := hidIt hFT
  have HL1 := hidIt (linesB_len 61 (b.prems.map premLn) (fun x hx => by
    obtain ⟨p, hp, rfl⟩ := List.mem_map.1 hx
    obtain ⟨-, h2, h3, h4⟩ := HFIT.out.1 p hp
    have := premT_size p p.rank.toNat (by omega) h3 h4
    have e : nlT.size = 1 := rfl
    unfold premLn
    rw [ByteArray.size_append]; omega))
  have HL2 := hidIt (linesB_len 80101 (b.rules.map ruleLn) (fun x hx => by
    obtain ⟨p, hp, rfl⟩ := List.mem_map.1 hx
    obtain ⟨h1, h2, h3, h4, h5⟩ := HFIT.out.2.1 p hp
    have := ruleT_size p p.rank.toNat (by omega) h2 h3 h4 h5
    have e : nlT.size = 1 := rfl
    unfold ruleLn
    rw [ByteArray.size_append]; omega))
  have HL3 := hidIt (linesB_len 61 (b.proms.map promLn) (fun x hx => by
    obtain ⟨p, hp, rfl⟩ := List.mem_map.1 hx
    obtain ⟨h2, h3, h4⟩ := HFIT.out.2.2.1 p hp
    have := promT_size p p.rank.toNat (by omega) h3 h4
    have e : nlT.size = 1 := rfl
    unfold promLn
    rw [ByteArray.size_append]; omega))
  rw [hE]
  clear hE hFE hFT
  obtain ⟨k0, k1, k2⟩ := bcell3 HK1.out
  have lk := lt_of_block HK1.out
  go_wp2_with fail
  clear k0 k1 k2 lk
  go_loopw [5, 6] (fun s i wr => ∃ k : Nat, k ≤ b.prems.length ∧ i = .int .i64 k ∧ s = .string ⟨(linesB (b.prems.map premLn) k).toArray⟩ ∧ Hid (Below w1.heap.size w1 wr)) (fun _ i _ => b.prems.length - (intOf i).toNat)
  case atStart => exact ⟨0, Nat.zero_le _, rfl, rfl, Below.refl _ _⟩
  case round =>
    obtain ⟨k, hk, rfl, rfl, HBr⟩ := hrel
    have hK := blk_kept2 HK1.out HBr.out
    obtain ⟨k0, k1, k2⟩ := bcell3 hK
    have lk := lt_of_block hK
    clear hK
    have hsz := HL1.out k
    by_cases hlt : k < b.prems.length
    · obtain ⟨aa, ca, ea, -, -, hrow⟩ := RowIn.form HP1.out
      injection ea with ea eb ec
      subst ea ec
      obtain ⟨bb, off, rfl, hbl, x0', x1', x2', x3', x4'⟩ := hrow k hlt
      have x0 := (HBr.out.cell (p := ⟨bb, off + k * 5, none⟩) hbl).trans x0'
      have x1 := (HBr.out.cell (p := ⟨bb, off + k * 5 + 1, none⟩) hbl).trans x1'
      have x2 := (HBr.out.cell (p := ⟨bb, off + k * 5 + 2, none⟩) hbl).trans x2'
      have x3 := (HBr.out.cell (p := ⟨bb, off + k * 5 + 3, none⟩) hbl).trans x3'
      have x4 := (HBr.out.cell (p := ⟨bb, off + k * 5 + 4, none⟩) hbl).trans x4'
      have hx := Nat.lt_of_lt_of_le hbl HBr.out.size
      have hltI : (k : Int) < (b.prems.length : Int) := by omega
      have hk0 : (0 : Int) ≤ (k : Int) := by omega
      obtain ⟨hkd, hrk, hs1, hs2⟩ := HFIT.out.1 _ (List.getElem_mem hlt)
      have hpl := premT_size b.prems[k] b.prems[k].rank.toNat (by omega) hs1 hs2
      have HC : Hid (∀ wx : World, Calls Tryz.prog 45 #[.agg #[.bool b.prems[k].lit.neg, .string b.prems[k].lit.name, .int .i64 b.prems[k].kind, .int .i64 b.prems[k].rank, .string b.prems[k].src]] wx fun e w' => e = .returned (.string (premT b.prems[k] b.prems[k].rank.toNat)) ∧ Below wx.heap.size wx w') := fun wx => r5premLine_any b.prems[k] b.prems[k].rank.toNat (by omega) (by omega) hs1 hs2 hkd wx
      have HE : Hid ((⟨(linesB (b.prems.map premLn) (k + 1)).toArray⟩ : ByteArray) = ⟨(linesB (b.prems.map premLn) k).toArray⟩ ++ premT b.prems[k] b.prems[k].rank.toNat ++ ⟨#[10]⟩) := by
        show _ = _
        rw [linesB_snoc premLn b.prems k hlt]
        exact bytesL_snoc _ _
      have hsz2 := bytesL_size (linesB (b.prems.map premLn) k)
      generalize (⟨(linesB (b.prems.map premLn) k).toArray⟩ : ByteArray) = T0 at *
      generalize premT b.prems[k] b.prems[k].rank.toNat = tk at *
      have q1 : ¬ 9223372036854775807 < T0.size + tk.size := by omega
      have q2 : ¬ 9223372036854775807 < T0.size + tk.size + 1 := by omega
      clear hrow x0' x1' x2' x3' x4' hbl hkd hrk hs1 hs2 hpl hsz hsz2
      go_wp2_with fail
      refine (HC.out _).mono ?_
      rintro e w2 ⟨rfl, hb2⟩
      have HB2 := hidIt (HBr.out.trans (Below.mono hb2 HBr.out.size))
      clear hb2
      go_wp2_with fail
      go_roundw
      case rel => exact ⟨k + 1, by omega, by go_num, by rw [HE.out], HB2.out⟩
      case measure => simp [intOf]; omega
    · obtain rfl : k = b.prems.length := by omega
      have hltI : ¬ (b.prems.length : Int) < (b.prems.length : Int) := by omega
      obtain ⟨LP, hLP⟩ : ∃ L, L = linesB (b.prems.map premLn) b.prems.length := ⟨_, rfl⟩
      rw [← hLP] at hsz HTX ⊢
      clear hLP hlt
      go_wp2_with fail
      clear k0 k1 k2 lk hltI
      go_loopw [5, 7] (fun s i wx => ∃ k : Nat, k ≤ b.rules.length ∧ i = .int .i64 k ∧ s = .string ⟨(LP ++ linesB (b.rules.map ruleLn) k).toArray⟩ ∧ Hid (Below w1.heap.size w1 wx)) (fun _ i _ => b.rules.length - (intOf i).toNat)
      case atStart => exact ⟨0, Nat.zero_le _, rfl, by simp [linesB], HBr.out⟩
      case round =>
        clear HBr hk
        obtain ⟨k, hk, rfl, rfl, HBr⟩ := hrel
        have hK := blk_kept2 HK1.out HBr.out
        obtain ⟨k0, k1, k2⟩ := bcell3 hK
        have lk := lt_of_block hK
        clear hK
        have hsz1 := HL2.out k
        by_cases hlt : k < b.rules.length
        · obtain ⟨aa, ca, ea, -, -, hrow⟩ := RowIn.form HR1.out
          injection ea with ea eb ec
          subst ea ec
          obtain ⟨bb, off, rfl, hbl, bv, x0', x1', x2', x3', x4', x5', hbd⟩ := hrow k hlt
          obtain ⟨av, cv, rfl, -, -, -⟩ := hbd.form
          have x0 := (HBr.out.cell (p := ⟨bb, off + k * 6, none⟩) hbl).trans x0'
          have x1 := (HBr.out.cell (p := ⟨bb, off + k * 6 + 1, none⟩) hbl).trans x1'
          have x2 := (HBr.out.cell (p := ⟨bb, off + k * 6 + 2, none⟩) hbl).trans x2'
          have x3 := (HBr.out.cell (p := ⟨bb, off + k * 6 + 3, none⟩) hbl).trans x3'
          have x4 := (HBr.out.cell (p := ⟨bb, off + k * 6 + 4, none⟩) hbl).trans x4'
          have x5 := (HBr.out.cell (p := ⟨bb, off + k * 6 + 5, none⟩) hbl).trans x5'
          have hx := Nat.lt_of_lt_of_le hbl HBr.out.size
          have hltI : (k : Int) < (b.rules.length : Int) := by omega
          have hk0 : (0 : Int) ≤ (k : Int) := by omega
          obtain ⟨hrk, hs1, hs2, hs3, hs4⟩ := HFIT.out.2.1 _ (List.getElem_mem hlt)
          have hpl := ruleT_size b.rules[k] b.rules[k].rank.toNat (by omega) hs1 hs2 hs3 hs4
          have HC : Hid (Calls Tryz.prog 46 #[.agg #[.string b.rules[k].name, .bool b.rules[k].strict, .int .i64 b.rules[k].rank, .slice av b.rules[k].body.length cv, .bool b.rules[k].head.neg, .string b.rules[k].head.name]] wr fun e w' => e = .returned (.string (ruleT b.rules[k] b.rules[k].rank.toNat)) ∧ Below wr.heap.size wr w') := r5ruleLine_any b.rules[k] b.rules[k].rank.toNat (by omega) (by omega) hs1 hs2 hs3 (by omega) av cv wr (hbd.below HBr.out)
          have HE : Hid ((⟨(LP ++ linesB (b.rules.map ruleLn) (k + 1)).toArray⟩ : ByteArray) = ⟨(LP ++ linesB (b.rules.map ruleLn) k).toArray⟩ ++ ruleT b.rules[k] b.rules[k].rank.toNat ++ ⟨#[10]⟩) := by
            show _ = _
            rw [linesB_snoc ruleLn b.rules k hlt, ← List.append_assoc]
            exact bytesL_snoc _ _
          have hsz2 := bytesL_size (LP ++ linesB (b.rules.map ruleLn) k)
          rw [List.length_append] at hsz2
          generalize (⟨(LP ++ linesB (b.rules.map ruleLn) k).toArray⟩ : ByteArray) = T0 at *
          generalize ruleT b.rules[k] b.rules[k].rank.toNat = tk at *
          have q1 : ¬ 9223372036854775807 < T0.size + tk.size := by omega
          have q2 : ¬ 9223372036854775807 < T0.size + tk.size + 1 := by omega
          clear hrow x0' x1' x2' x3' x4' x5' hbl hrk hs1 hs2 hs3 hs4 hpl hsz1 hsz2 hbd
          go_wp2_with fail
          refine HC.out.mono ?_
          rintro e w2 ⟨rfl, hb2⟩
          have HB2 := hidIt (HBr.out.trans (Below.mono hb2 HBr.out.size))
          clear hb2
          go_wp2_with fail
          go_roundw
          case rel => exact ⟨k + 1, by omega, by go_num, by rw [HE.out], HB2.out⟩
          case measure => simp [intOf]; omega
        · obtain rfl : k = b.rules.length := by omega
          have hltI : ¬ (b.rules.length : Int) < (b.rules.length : Int) := by omega
          obtain ⟨LR, hLR⟩ : ∃ L, L = LP ++ linesB (b.rules.map ruleLn) b.rules.length := ⟨_, rfl⟩
          have hlr : LR.length = LP.length + (linesB (b.rules.map ruleLn) b.rules.length).length := by rw [hLR, List.length_append]
          rw [← hLR] at HTX ⊢
          clear hLR hlt
          go_wp2_with fail
          clear k0 k1 k2 lk hltI
          go_loopw [5, 8] (fun s i wy => ∃ k : Nat, k ≤ b.proms.length ∧ i = .int .i64 k ∧ s = .string ⟨(LR ++ linesB (b.proms.map promLn) k).toArray⟩ ∧ Hid (Below w1.heap.size w1 wy)) (fun _ i _ => b.proms.length - (intOf i).toNat)
          case atStart => exact ⟨0, Nat.zero_le _, rfl, by simp [linesB], HBr.out⟩
          case round =>
            clear HBr hk
            obtain ⟨k, hk, rfl, rfl, HBr⟩ := hrel
            have hK := blk_kept2 HK1.out HBr.out
            obtain ⟨k0, k1, k2⟩ := bcell3 hK
            have lk := lt_of_block hK
            clear hK
            have hsz3 := HL3.out k
            by_cases hlt : k < b.proms.length
            · obtain ⟨aa, ca, ea, -, -, hrow⟩ := RowIn.form HQ1.out
              injection ea with ea eb ec
              subst ea ec
              obtain ⟨bb, off, rfl, hbl, x0', x1', x2', x3'⟩ := hrow k hlt
              have x0 := (HBr.out.cell (p := ⟨bb, off + k * 4, none⟩) hbl).trans x0'
              have x1 := (HBr.out.cell (p := ⟨bb, off + k * 4 + 1, none⟩) hbl).trans x1'
              have x2 := (HBr.out.cell (p := ⟨bb, off + k * 4 + 2, none⟩) hbl).trans x2'
              have x3 := (HBr.out.cell (p := ⟨bb, off + k * 4 + 3, none⟩) hbl).trans x3'
              have hx := Nat.lt_of_lt_of_le hbl HBr.out.size
              have hltI : (k : Int) < (b.proms.length : Int) := by omega
              have hk0 : (0 : Int) ≤ (k : Int) := by omega
              obtain ⟨hrk, hs1, hs2⟩ := HFIT.out.2.2.1 _ (List.getElem_mem hlt)
              have hpl := promT_size b.proms[k] b.proms[k].rank.toNat (by omega) hs1 hs2
              have HC : Hid (∀ wx : World, Calls Tryz.prog 47 #[.agg #[.string b.proms[k].rule, .int .i64 b.proms[k].rank, .bool b.proms[k].lit.neg, .string b.proms[k].lit.name]] wx fun e w' => e = .returned (.string (promT b.proms[k] b.proms[k].rank.toNat)) ∧ Below wx.heap.size wx w') := fun wx => r5promLine_any b.proms[k] b.proms[k].rank.toNat (by omega) (by omega) hs1 hs2 wx
              have HE : Hid ((⟨(LR ++ linesB (b.proms.map promLn) (k + 1)).toArray⟩ : ByteArray) = ⟨(LR ++ linesB (b.proms.map promLn) k).toArray⟩ ++ promT b.proms[k] b.proms[k].rank.toNat ++ ⟨#[10]⟩) := by
                show _ = _
                rw [linesB_snoc promLn b.proms k hlt, ← List.append_assoc]
                exact bytesL_snoc _ _
              have hsz2 := bytesL_size (LR ++ linesB (b.proms.map promLn) k)
              rw [List.length_append] at hsz2
              generalize (⟨(LR ++ linesB (b.proms.map promLn) k).toArray⟩ : ByteArray) = T0 at *
              generalize promT b.proms[k] b.proms[k].rank.toNat = tk at *
              have q1 : ¬ 9223372036854775807 < T0.size + tk.size := by omega
              have q2 : ¬ 9223372036854775807 < T0.size + tk.size + 1 := by omega
              clear hrow x0' x1' x2' x3' hbl hrk hs1 hs2 hpl hsz1 hsz2 hsz3
              go_wp2_with fail
              refine (HC.out _).mono ?_
              rintro e w2 ⟨rfl, hb2⟩
              have HB2 := hidIt (HBr.out.trans (Below.mono hb2 HBr.out.size))
              clear hb2
              go_wp2_with fail
              go_roundw
              case rel => exact ⟨k + 1, by omega, by go_num, by rw [HE.out], HB2.out⟩
              case measure => simp [intOf]; omega
            · obtain rfl : k = b.proms.length := by omega
              have hltI : ¬ (b.proms.length : Int) < (b.proms.length : Int) := by omega
              have HTX2 : Hid (textL b = ⟨(LR ++ linesB (b.proms.map promLn) b.proms.length).toArray⟩) := HTX.out
              rw [HTX2.out] at HFE HFT
              clear HTX HTX2 HL1 HL2 HL3 hsz hsz1 hsz3 hlr
              generalize (⟨(LR ++ linesB (b.proms.map promLn) b.proms.length).toArray⟩ : ByteArray) = TX at *
              have HBw := hidIt (HB1.out.trans (HBr.out.mono HB1.out.size))
              by_cases hbig : 4096 < TX.size
              · have hbI : (4096 : Int) < (TX.size : Int) := by omega
                have HF1 : Hid (fmtE5 b = 2) := HFE.out.trans (if_pos hbig)
                have HF2 : Hid (fmtT5 b = ⟨#[]⟩) := by show _ = _; rw [HFT.out, HF1.out, if_neg (by decide)]
                clear hbig
                go_wp2_with fail
                go_ret2
                exact ⟨by rw [HF1.out, HF2.out]; rfl, HBw.out⟩
              · have hbI : ¬ (4096 : Int) < (TX.size : Int) := by omega
                have HF1 : Hid (fmtE5 b = 0) := HFE.out.trans (if_neg hbig)
                have HF2 : Hid (fmtT5 b = TX) := by show _ = _; rw [HFT.out, HF1.out, if_pos rfl]
                clear hbig
                go_wp2_with fail
                go_ret2
                exact ⟨by rw [HF1.out, HF2.out]; rfl, HBw.out⟩
end Go.Proofs.YtfcoplplkbeljaaGreatDoor
