/- The law RulebaseParses: the call answers true for every text, every list of numbers, every place and every byte. -/
import Derived.Test.YtfcoplplkbeljaaGreatDoorZ1R5pars
import Derived.Test.YtfcoplplkbeljaaGreatDoorZ1U
import Derived.Test.YtfcoplplkbeljaaGreatDoorZ1G
import Derived.Test.YtfcoplplkbeljaaGreatDoorZ1R5same
import Derived.Test.YtfcoplplkbeljaaGreatDoorZ1S
import Derived.Test.YtfcoplplkbeljaaGreatDoorRelS
import Derived.Test.YtfcoplplkbeljaaGreatDoorNew
import Derived.Test.YtfcoplplkbeljaaGreatDoorOdd
import Derived.Laws.IdiomStrings

namespace Go.Proofs.YtfcoplplkbeljaaGreatDoor
set_option linter.unusedVariables false
set_option linter.unusedSimpArgs false
open Go Go.RowKit

theorem fmt5_small (b : Bs) : (fmtT5 b).size ≤ 4096 := by
  unfold fmtT5
  by_cases hf : fmtE5 b = 0
  · rw [if_pos hf]
    unfold fmtE5 at hf
    by_cases hv : baseE b = 0
    · rw [if_pos hv] at hf
      by_cases hl : 4096 < (textL b).size
      · rw [if_pos hl] at hf; cases hf
      · exact Nat.le_of_not_lt hl
    · rw [if_neg hv] at hf; exact absurd hf hv
  · rw [if_neg hf]; exact Nat.zero_le _
theorem r5same_true (b : Bs) (v u : Value) (w : World) (hv : BaseAt w v b) (hu : BaseAt w u b) :
    Calls Tryz.prog 18 #[v, u] w fun e w' => e = .returned (.bool true) ∧ Below w.heap.size w w' :=
  (r5same_any b b v u w hv hu).mono fun e w' ⟨⟨r, he, hr⟩, hb⟩ => ⟨by rw [he, hr.2 rfl], hb⟩

/-- A block whose first n cells are bytes. -/
def BytesAt (w : World) (g n : Nat) : Prop := g < w.heap.size ∧ ∀ j, j < n → ∃ x : UInt8, w.cell? ⟨g, j, none⟩ = some (.int .u8 (x.toNat : Int))

theorem BytesAt.kept {w w' : World} {g n b : Nat} (h : BytesAt w g n) (hg : w.grownBy w' (some b)) (hne : g ≠ b) : BytesAt w' g n :=
  ⟨Nat.lt_of_lt_of_le h.1 hg.size, fun j hj => by
    obtain ⟨x, hx⟩ := h.2 j hj
    exact ⟨x, hg.cell hx (fun e => hne (by injection e))⟩⟩

theorem BytesAt.list {w : World} {g n : Nat} (h : BytesAt w g n) : ∃ l : List UInt8, l.length = n ∧ ∀ j (hj : j < l.length), w.cell? ((⟨g, 0, none⟩ : Addr).add j) = some (.int .u8 (l[j].toNat : Int)) := by
  have hc := fun j (hj : j < n) => (h.2 j hj)
  refine ⟨List.ofFn fun j : Fin n => (hc j.1 j.2).choose, by simp, fun j hj => ?_⟩
  have hj' : j < n := by simpa using hj
  rw [List.getElem_ofFn]
  have := (hc j hj').choose_spec
  rw [Addr.add_lit, Nat.zero_add]
  exact this

/-- The bytes of a block are a text again. -/
theorem bytes_back {w : World} {g n cap : Nat} (h : BytesAt w g n) : ∃ s : ByteArray, s.size = n ∧ (convert 34 9 (.slice (some ⟨g, 0, none⟩) n cap)).run Tryz.prog w = .ok (.string s) w := by
  obtain ⟨l, hl, hc⟩ := h.list
  refine ⟨⟨l.toArray⟩, by show l.toArray.size = n; simpa using hl, ?_⟩
  subst hl
  exact run_convert_bytes_back (P := Tryz.prog) w 34 9 5 ⟨g, 0, none⟩ cap l Tryz.underlying34 Tryz.underlying5 Tryz.underlying9 hc

/-- What a text's conversion lays. -/
theorem bytes_laid (w : World) (s : ByteArray) (cap : Nat) : BytesAt (w.alloc (.cells (bytesRow s cap) 5 ((bytesRow s cap).size, (bytesRow s cap).size + 1))) w.heap.size s.size := by
  refine ⟨by simp, fun j hj => ⟨s.data[j]'hj, ?_⟩⟩
  rw [World.cell?_alloc_mark]
  exact bytesRow_at s cap j hj

theorem bytes_thaw (w : World) (s : ByteArray) (cap j : Nat) (hj : j < s.size) : (w.alloc (.cells (bytesRow s cap) 5 ((bytesRow s cap).size, (bytesRow s cap).size + 1))).frozen? ⟨w.heap.size, j, none⟩ = false := by
  rw [World.frozen?_alloc_mark]
  have h1 := bytesRow_at s cap j hj
  rw [Array.getElem?_eq_some_iff] at h1
  obtain ⟨h2, -⟩ := h1
  rw [Bool.and_eq_false_iff]
  left
  simp
  exact h2

/-- One byte is put. -/
theorem BytesAt.put {w : World} {g n m : Nat} {y : Int} (h : BytesAt w g n) (hm : m < n) (hy : 0 ≤ y ∧ y ≤ 255) : BytesAt (w.setCell ⟨g, m, none⟩ (.int .u8 y)) g n := by
  refine ⟨by simpa [World.setCell] using h.1, fun j hj => ?_⟩
  by_cases e : j = m
  · subst e
    obtain ⟨x, hx⟩ := h.2 j hj
    refine ⟨UInt8.ofNat y.toNat, ?_⟩
    rw [World.cell?_setCell_same' _ _ _ (by rw [hx]; rfl), UInt8.toNat_ofNat']
    congr 2
    omega
  · obtain ⟨x, hx⟩ := h.2 j hj
    refine ⟨x, ?_⟩
    rw [World.cell?_setCell_other (w := w) (a := (⟨g, m, none⟩ : Addr)) (b := (⟨g, j, none⟩ : Addr)) (v := .int .u8 y) (fun h => e (by injection h with _ h; exact h.symm))]
    exact hx

theorem below_of_only {w w' : World} {b : Nat} (h : w.grownBy w' (some b)) (hb : w.heap.size ≤ b) : Below w.heap.size w w' :=
  ⟨h.os, h.tape, h.output, h.size, fun i hi => h.block i hi (fun e => by injection e with e; omega)⟩
/-- The pieces of the random text. -/
def wild5 : List ByteArray := [⟨#[97, 120, 105, 111, 109, 32, 112]⟩, ⟨#[112, 114, 101, 109, 105, 115, 101, 32, 113, 32, 51]⟩, ⟨#[32, 102, 114, 111, 109, 32, 97, 110, 110]⟩, ⟨#[97, 115, 115, 117, 109, 101, 32, 126, 112]⟩, ⟨#[115, 116, 114, 105, 99, 116, 32, 115, 58, 32, 112, 32, 45, 62, 32, 113]⟩, ⟨#[115, 116, 114, 105, 99, 116, 32, 115, 58, 32, 45, 62, 32, 113]⟩, ⟨#[114, 117, 108, 101, 32, 100, 32, 50, 58, 32, 61, 62, 32, 112]⟩, ⟨#[114, 117, 108, 101, 32, 100, 32, 50, 58, 32, 112, 44, 32, 113, 32, 61, 62, 32, 126, 100]⟩, ⟨#[112, 114, 111, 109, 111, 116, 101, 32, 100, 32, 53, 32, 105, 102, 32, 113]⟩, ⟨#[10]⟩, ⟨#[10]⟩, ⟨#[10]⟩, ⟨#[32]⟩, ⟨#[44]⟩, ⟨#[120]⟩]
theorem wild5_short {s : ByteArray} (h : s ∈ wild5) : s.size ≤ 20 := by
  simp only [wild5, List.mem_cons, List.not_mem_nil, or_false] at h
  rcases h with rfl | rfl | rfl | rfl | rfl | rfl | rfl | rfl | rfl | rfl | rfl | rfl | rfl | rfl | rfl <;> decide

/-- A text of at most M bytes. -/
def isS (M : Nat) : Value → World → Prop := fun v _ => ∃ s : ByteArray, v = .string s ∧ s.size ≤ M
/-- A number of at most M. -/
def isN (M : Nat) : Value → World → Prop := fun v _ => ∃ m : Nat, v = .int .i64 (m : Int) ∧ m ≤ M
/-- Eight texts outside block b. -/
def isRow8 (b : Nat) : Value → World → Prop := fun v w => ∃ r : Nat, v = .slice (some ⟨r, 0, none⟩) 8 8 ∧ r ≠ b ∧ r < w.heap.size ∧ ∀ k, k < 8 → ∃ s : ByteArray, w.cell? ⟨r, k, none⟩ = some (.string s) ∧ s.size ≤ 5000
theorem isRow8_kept {b : Nat} {v : Value} {w w' : World} (hg : w.grownBy w' (some b)) (h : isRow8 b v w) : isRow8 b v w' := by
  obtain ⟨r, h1, h2, h3, h4⟩ := h
  refine ⟨r, h1, h2, Nat.lt_of_lt_of_le h3 hg.size, fun k hk => ?_⟩
  obtain ⟨s, hs, hz⟩ := h4 k hk
  exact ⟨s, hg.cell hs (fun e => h2 (by injection e)), hz⟩
theorem row8 {b : Nat} {w : World} {s0 s1 s2 s3 s4 s5 s6 s7 : ByteArray} (h0 : s0.size ≤ 5000) (h1 : s1.size ≤ 5000) (h2 : s2.size ≤ 5000) (h3 : s3.size ≤ 5000) (h4 : s4.size ≤ 5000) (h5 : s5.size ≤ 5000) (h6 : s6.size ≤ 5000) (h7 : s7.size ≤ 5000) (hb : b < w.heap.size) :
    isRow8 b (.slice (some ⟨w.heap.size, 0, none⟩) 8 8) (w.alloc (.cells #[.string s0, .string s1, .string s2, .string s3, .string s4, .string s5, .string s6, .string s7] 9)) := by
  have hK := heap_alloc_new w (.cells #[.string s0, .string s1, .string s2, .string s3, .string s4, .string s5, .string s6, .string s7] 9)
  have hl := lt_of_block hK
  generalize (w.alloc (.cells #[.string s0, .string s1, .string s2, .string s3, .string s4, .string s5, .string s6, .string s7] 9)) = w' at *
  refine ⟨_, rfl, by omega, hl, fun k hk => ?_⟩
  rcases (by omega : k = 0 ∨ k = 1 ∨ k = 2 ∨ k = 3 ∨ k = 4 ∨ k = 5 ∨ k = 6 ∨ k = 7) with rfl | rfl | rfl | rfl | rfl | rfl | rfl | rfl
  · exact ⟨s0, by simp [World.cell?, hK], h0⟩
  · exact ⟨s1, by simp [World.cell?, hK], h1⟩
  · exact ⟨s2, by simp [World.cell?, hK], h2⟩
  · exact ⟨s3, by simp [World.cell?, hK], h3⟩
  · exact ⟨s4, by simp [World.cell?, hK], h4⟩
  · exact ⟨s5, by simp [World.cell?, hK], h5⟩
  · exact ⟨s6, by simp [World.cell?, hK], h6⟩
  · exact ⟨s7, by simp [World.cell?, hK], h7⟩

theorem sn_rel {b M : Nat} {zs : List Int} {W w : World} (hM : M ≤ 4096) (hC : W.grownBy w (some b) ∧ ∃ q, SrcAt w b b zs q) :
    Calls Tryz.prog 14 #[.pointer (some ⟨b, 0, none⟩), .int .i64 ((M : Int) + 1)] w fun e w'' => ∃ u, e = .returned u ∧ (W.grownBy w'' (some b) ∧ ∃ q, SrcAt w'' b b zs q) ∧ w.grownBy w'' (some b) ∧ isN M u w'' := by
  obtain ⟨hC1, q, hq⟩ := hC
  refine (sn_nat _ (by omega) (by omega) b b zs q w hq).mono ?_
  rintro e w'' ⟨m, q', rfl, hm, hs, hg⟩
  exact ⟨_, rfl, ⟨only_trans hC1 hg, q', hs⟩, hg, m, rfl, by omega⟩

set_option maxRecDepth 100000 in
set_option maxHeartbeats 8000000 in
theorem rpars_walk (tx : ByteArray) (v : Value) (zs : List Int) (n y : Int) (w : World) (hx : tx.size ≤ maxLen) (hz : IntsAt w w.heap.size v zs) (hn : I64 n) (hy : 0 ≤ y ∧ y ≤ 255) (hE : EnvOk w) : Calls Tryz.prog 3 #[.string tx, v, .int .i64 n, .int .u8 y] w fun e w' => e = .returned (.bool true) ∧ Below w.heap.size w w' := by
  have HE := hidIt hE
  have HZ := hidIt hz
  have HX := hidIt hx
  clear hE hz hx
  go_enter Tryz.func3, Tryz.ntmps3
  by_cases hlong : 300 < tx.size
  · have hl : (300 : Int) < (tx.size : Int) := by omega
    go_wp2_with fail
    go_ret
    exact ⟨rfl, Below.refl _ _⟩
  have hl : ¬ (300 : Int) < (tx.size : Int) := by omega
  go_wp2_with fail
  refine (new_any v zs w.heap.size w HZ.out (Nat.le_refl _)).mono ?_
  rintro e w1 ⟨zs1, rfl, hs1, o1, hw1⟩
  have HS1 := hidIt hs1
  have hb1 : Below w.heap.size w w1 := by rw [hw1]; exact bgrow w o1
  have HB1 := hidIt hb1
  clear hs1 hb1 HZ hw1
  go_wp2_with fail
  refine (base_any 4 5 6 (by omega) (by omega) (by omega) (by omega) (by omega) w.heap.size w.heap.size zs1 0 w1 HS1.out).mono ?_
  rintro e w2 ⟨vb, bs, q2, rfl, hbo, hgen, hs2, hg2⟩
  have HS2 := hidIt hs2
  have HB2 := hidIt (only_trans (only_of_below HB1.out (some w.heap.size)) hg2)
  have HV2 := hidIt hbo.at_
  have HFIT := hidIt (baseE_fit (hgen.valid (by omega) (by omega) (by omega))).ok
  clear hbo hgen hs2 hg2 HS1 HB1
  go_wp2_with fail
  refine (r5format_any bs HFIT.out _ _ HV2.out).mono ?_
  rintro e w3 ⟨rfl, hb3⟩
  have HS3 := hidIt (HS2.out.grow (only_of_below hb3 none))
  have HB3 := hidIt (only_trans HB2.out (only_of_below hb3 _))
  have HSM := hidIt (fmt5_small bs)
  clear hb3 HS2 HB2 HV2 HFIT
  generalize fmtT5 bs = g at *
  generalize fmtE5 bs = ge at *
  go_wp2_with fail
  obtain ⟨cap, w4, hcv, hBY, hth, hgr⟩ : ∃ (cap : Nat) (w4 : World), (convert 9 34 (.string g)).run Tryz.prog w3 = .ok (.slice (some ⟨w3.heap.size, 0, none⟩) g.size cap) w4 ∧ BytesAt w4 w3.heap.size g.size ∧
      (∀ j, j < g.size → w4.frozen? ⟨w3.heap.size, j, none⟩ = false) ∧ w3.grownBy w4 none :=
    ⟨_, _, run_bytes_of_string (P := Tryz.prog) w3 9 34 5 g Tryz.underlying9 Tryz.underlying34 Tryz.underlying5, bytes_laid w3.drew g _, fun j hj => bytes_thaw w3.drew g _ j hj, only_alloc (only_of_below (Below.refl _ _).drew none) _⟩
  have HS4 := hidIt (HS3.out.grow hgr)
  have HB4 := hidIt (only_trans HB3.out ⟨hgr.os, hgr.tape, hgr.output, hgr.size, fun i hi _ => hgr.block i hi (fun e => by cases e)⟩)
  have hgb : w.heap.size < w3.heap.size := HS3.out.lt
  have HBY := hidIt hBY
  have HTH := hidIt hth
  clear hgr hBY hth HS3 HB3
  rw [hcv]
  clear hcv
  rcases Nat.eq_zero_or_pos g.size with h0 | h0
  rotate_left
  have h0' : (0 : Int) < (g.size : Int) := by omega
  have h0d : decide ((0 : Int) < (g.size : Int)) = true := decide_eq_true h0'
  go_wp2_with fail
  have hgm : g.size ≤ 4096 := HSM.out
  have hmd := modI_bd n g.size (by omega)
  have hn' := hn
  unfold I64 at hn'
  refine (mod_any n g.size (by omega) (by omega) (by omega) (by omega) w4).mono ?_
  rintro e w5' ⟨rfl, rfl⟩
  obtain ⟨m, hm⟩ : ∃ m : Nat, modI n g.size = (m : Int) := ⟨(modI n g.size).toNat, by omega⟩
  rw [hm] at hmd ⊢
  clear hm hn'
  have hmlt : m < g.size := by omega
  have hmi : (m : Int) < (g.size : Int) := by omega
  have hm0 : (0 : Int) ≤ (m : Int) := by omega
  obtain ⟨xb, hxb⟩ := HBY.out.2 m hmlt
  have hxf := HTH.out m hmlt
  have hgl := HBY.out.1
  go_wp2_with fail
  have hgr5 : w4.grownBy (w4.setCell ⟨w3.heap.size, m, none⟩ (.int .u8 y)) (some w3.heap.size) := only_setCell (only_refl _ _) (.inl rfl) _
  have HS5 := hidIt (HS4.out.setCell (⟨w3.heap.size, m, none⟩ : Addr) (.int .u8 y) (Nat.le_of_lt hgb) (Nat.ne_of_gt hgb))
  have HB5 := hidIt (only_setCell (p := ⟨w3.heap.size, m, none⟩) HB4.out (.inr (Nat.le_of_lt hgb)) (.int .u8 y))
  have HBY5 := hidIt (HBY.out.put hmlt hy)
  have hnb := hgm
  clear hgr5 hxb hxf hgl hmd hgm hmi hm0
  generalize (w4.setCell ⟨w3.heap.size, m, none⟩ (.int .u8 y)) = w5 at *
  clear hmlt h0' h0d
  rotate_left
  have HS5 := HS4
  have HB5 := HB4
  have HBY5 := HBY
  rw [h0] at HBY5
  have hnb : 0 ≤ 4096 := Nat.zero_le _
  generalize hW5 : w4 = w5 at *
  clear hW5
  all_goals (
  clear h0 HTH HBY HS4 HB4
  generalize w3.heap.size = gb at *
  refine (sn_nat 10 (by omega) (by omega) _ _ zs1 _ w5 HS5.out).mono ?_
  rintro e w6 ⟨k0, q6, rfl, hk0, hs6, hg6⟩
  have HS6 := hidIt hs6
  have HB6 := hidIt (only_trans HB5.out hg6)
  have HBY6 := hidIt (HBY5.out.kept hg6 (Nat.ne_of_gt hgb))
  clear hs6 hg6 HS5 HB5 HBY5
  have hk0n : k0 < 10 := by omega
  clear hk0
  go_wp2_with fail
  have hbl6 := HS6.out.lt
  go_loopw [13, 14] (fun x i wr => ∃ (k : Nat) (s : ByteArray) (q : Nat), s.size + 20 * k ≤ 200 ∧ x = .string s ∧ i = .int .i64 k ∧ Hid (SrcAt wr w.heap.size w.heap.size zs1 q) ∧ Hid (w6.grownBy wr (some w.heap.size))) (fun _ i _ => (intOf i).toNat)
  case atStart => exact ⟨k0, ⟨#[]⟩, q6, (by show 0 + 20 * k0 ≤ 200; omega), rfl, rfl, HS6, only_refl _ _⟩
  case round =>
    obtain ⟨k, sw, q, hk, rfl, rfl, HSr, HGr⟩ := hrel
    cases k with
    | succ j =>
      have hj1 : (0 : Int) < ((j + 1 : Nat) : Int) := by omega
      have hj0 : (j + 1 : Nat) ≤ 10 := by omega
      have hrb := HSr.out.lt
      go_wp2_with fail
      refine (text_any wr.heap.size wild5 (by decide) (by decide) _ _ zs1 q _ (HSr.out.alloc _) (heap_alloc_new wr _) (by omega)).mono ?_
      rintro e w7 ⟨u, q7, rfl, hmem, hs7, hg7⟩
      have hus := wild5_short hmem
      have HS7 := hidIt hs7
      have HG7 := hidIt (only_trans HGr.out (only_trans (only_alloc (only_refl _ _) _) hg7))
      have hcat : ¬ 9223372036854775807 < sw.size + u.size := by omega
      clear hmem hs7 hg7 HSr HGr hrb
      go_wp2_with fail
      go_roundw
      case rel => exact ⟨j, sw ++ u, q7, by rw [ByteArray.size_append]; omega, rfl, by go_num, HS7, HG7⟩
      case measure => simp [intOf]
    | zero =>
      have HWS : Hid (sw.size ≤ 200) := (by omega : sw.size ≤ 200)
      have HW7 := hidIt (only_trans HB6.out HGr.out)
      have HBYr := hidIt (HBY6.out.kept HGr.out (Nat.ne_of_gt hgb))
      clear hk HB6 HBY6 HS6 HGr hbl6 hk0n
      go_wp2_with fail
      have hrb := HSr.out.lt
      have hgz : g.size ≤ 4096 := HSM.out
      have hwz : sw.size ≤ 200 := HWS.out
      have htx : tx.size ≤ 300 := by omega
      have l1 : (⟨#[10]⟩ : ByteArray).size = 1 := rfl
      have c1 : ¬ 9223372036854775807 < sw.size + 1 := by omega
      have c2 : ¬ 9223372036854775807 < g.size + tx.size := by omega
      have c3 : ¬ 9223372036854775807 < 87 + g.size := by omega
      clear l1
      refine wp_region_rel (fun wx => wr.grownBy wx (some w.heap.size) ∧ ∃ q, SrcAt wx w.heap.size w.heap.size zs1 q) (fun x y => x.grownBy y (some w.heap.size)) (relTab [(60, isS 4096), (72, isN g.size), (76, isRow8 w.heap.size)]) (by kernel_rfl) (by kernel_rfl) (by kernel_rfl) (fun s r hs v x y hx hy hg hr => ?_) ⟨only_of_below (Below.refl _ _).drew _, _, HSr.out.grow (only_of_below (Below.refl _ _).drew none)⟩ ?_
      · unfold relTab at hs
        split at hs
        · injection hs with hs
          subst hs
          exact hr
        unfold relTab at hs
        split at hs
        · injection hs with hs
          subst hs
          exact hr
        unfold relTab at hs
        split at hs
        · injection hs with hs
          subst hs
          exact isRow8_kept hg hr
        · cases hs
      repeat (
        refine' walkR_plain (by kernel_rfl) rfl rfl (fun wx hC hL => ?_) ?_
        rotate_left
        · (go_simp; first | done | exact ⟨rfl, rfl⟩)
        simp only [Act.put, List.setIfInBounds_toArray, List.set_cons_zero, List.set_cons_succ])
      refine walkR_rel (by kernel_rfl) rfl rfl (of_decide_eq_true (by kernel_rfl)) (fun wx hC hL => ?_) (fun v hv => ?_)
      · obtain ⟨s60, hz60, hr60⟩ := bytes_back (HBYr.out.kept hC.1 (Nat.ne_of_gt hgb)) (cap := cap)
        go_simp
        exact ⟨hC, only_refl _ _, s60, rfl, by omega⟩
      obtain ⟨_, _, s60, rfl, hz60⟩ := hv
      simp only [Act.put, List.setIfInBounds_toArray, List.set_cons_zero, List.set_cons_succ]
      repeat (
        refine' walkR_plain (by kernel_rfl) rfl rfl (fun wx hC hL => ?_) ?_
        rotate_left
        · (go_simp; first | done | exact ⟨rfl, rfl⟩)
        simp only [Act.put, List.setIfInBounds_toArray, List.set_cons_zero, List.set_cons_succ])
      refine walkR_rel (by kernel_rfl) rfl rfl (of_decide_eq_true (by kernel_rfl)) (fun wx hC hL => ?_) (fun v hv => ?_)
      · go_simp
        have hwr : IntKind.i64.wrap ((g.size : Int) + 1) = (g.size : Int) + 1 := IntWalk.i64_in _ (by omega)
        have hsn := sn_rel hgz hC
        first | exact hsn | (rw [hwr]; exact hsn) | (simp only [hwr]; exact hsn)
      obtain ⟨_, _, m70, rfl, hm70⟩ := hv
      have hmi : (m70 : Int) ≤ (g.size : Int) := by omega
      have hmn : (0 : Int) ≤ (m70 : Int) := by omega
      simp only [Act.put, List.setIfInBounds_toArray, List.set_cons_zero, List.set_cons_succ]
      repeat (
        refine' walkR_plain (by kernel_rfl) rfl rfl (fun wx hC hL => ?_) ?_
        rotate_left
        · (go_simp; first | done | exact ⟨rfl, rfl⟩)
        simp only [Act.put, List.setIfInBounds_toArray, List.set_cons_zero, List.set_cons_succ])
      refine walkR_rel (by kernel_rfl) rfl rfl (of_decide_eq_true (by kernel_rfl)) (fun wx hC hL => ?_) (fun v hv => ?_)
      · go_simp
        have h1z : (sw ++ ⟨#[10]⟩ : ByteArray).size ≤ 5000 := by
          rw [ByteArray.size_append]
          have l1 : (⟨#[10]⟩ : ByteArray).size = 1 := rfl
          omega
        have hez : (g.extract 0 m70).size ≤ 5000 := by rw [ByteArray.size_extract]; omega
        have haz : (g ++ tx).size ≤ 5000 := by rw [ByteArray.size_append]; omega
        have hsz : (sampleT ++ g : ByteArray).size ≤ 5000 := by
          rw [ByteArray.size_append]
          have l1 : (sampleT : ByteArray).size = 87 := by rfl
          omega
        exact ⟨⟨only_alloc hC.1 _, hC.2.imp fun _ h => h.alloc _⟩, only_alloc (only_refl _ _) _, row8 (by omega) (by omega) (by omega) (by omega) h1z haz hez hsz (Nat.lt_of_lt_of_le hrb hC.1.size)⟩
      obtain ⟨_, _, r, rfl, hrb2, -, -⟩ := hv
      simp only [Act.put, List.setIfInBounds_toArray, List.set_cons_zero, List.set_cons_succ]
      repeat (
        refine' walkR_plain (by kernel_rfl) rfl rfl (fun wx hC hL => ?_) ?_
        rotate_left
        · (go_simp; first | done | exact ⟨rfl, rfl⟩)
        simp only [Act.put, List.setIfInBounds_toArray, List.set_cons_zero, List.set_cons_succ])
      refine fun w8 hC8 hK => ?_
      have h76 : isRow8 w.heap.size (.slice (some ⟨r, 0, none⟩) 8 8) w8 := hK 76 (by simp [more]) _ rfl
      obtain ⟨r', er, -, hrl, hrow⟩ := h76
      injection er with er
      injection er with er
      injection er with er
      subst er
      have HROW := hidIt hrow
      have HB8 := hidIt (below_of_only (only_trans HW7.out hC8.1) (Nat.le_refl _))
      clear hK hC8 hrow HW7 HBYr HSr c1 c2 c3 hrb hgz hwz hm70 hmi hmn HWS hz60 HSM htx
      go_wp2_with fail
      go_loopw [16, 17, 18, 19, 20, 21, 22, 78] (fun _ _ _ _ _ _ _ i wq => ∃ k : Nat, k ≤ 8 ∧ i = .int .i64 k ∧ Hid (Below w8.heap.size w8 wq)) (fun _ _ _ _ _ _ _ i _ => 8 - (intOf i).toNat)
      case atStart => exact ⟨0, by omega, rfl, Below.refl _ _⟩
      case round =>
        obtain ⟨k, hk, rfl, hbel⟩ := hrel
        have HBw := hidIt (HB8.out.trans (Below.mono hbel.out HB8.out.size))
        have HEw := hidIt (HE.out.go HBw.out)
        by_cases hlt : k < 8
        · obtain ⟨u, c0', hus⟩ := HROW.out k hlt
          have c0 := (hbel.out.cell (p := ⟨r, k, none⟩) hrl).trans c0'
          have hlt0 : (k : Int) < 8 := by omega
          have hk0 : (0 : Int) ≤ (k : Int) := by omega
          have HUS : Hid (u.size ≤ maxLen) := (by unfold maxLen; omega : u.size ≤ maxLen)
          clear c0' hus
          have HPA := hidIt (fun wx hx => bparse_any u HUS.out wx hx)
          have HPR := hidIt (fun wx => r5parse_any u HUS.out wx)
          generalize (parse5 u).1 = D at *
          generalize (parse5 u).2.1 = m at *
          generalize (parse5 u).2.2 = z at *
          go_wp2_with fail
          refine (HPA.out _ HEw.out).mono ?_
          rintro e wa ⟨v3, rfl, hv3, hb6⟩
          obtain ⟨g1, g2, g3, j1, j2, j3, rfl, -⟩ := hv3.form
          have hgr := bgrow wa (.cells #[.slice g1 D.prems.length j1, .slice g2 D.rules.length j2, .slice g3 D.proms.length j3] 32)
          have HB7 := hidIt (hbel.out.trans (Below.mono (hb6.trans (Below.mono hgr hb6.size)) hbel.out.size))
          have HG7 := hidIt (hv3.below hgr)
          have HD7 := hidIt (heap_alloc_new wa (.cells #[.slice g1 D.prems.length j1, .slice g2 D.rules.length j2, .slice g3 D.proms.length j3] 32))
          clear hv3 hb6 hgr c0
          go_wp2_with fail
          generalize (wa.alloc (.cells #[.slice g1 D.prems.length j1, .slice g2 D.rules.length j2, .slice g3 D.proms.length j3] 32)) = wb at *
          generalize wa.heap.size = pb at *
          refine (HPR.out wb).mono ?_
          rintro e wc ⟨v4, rfl, hv4, hb9⟩
          obtain ⟨g4, g5, g6, j4, j5, j6, rfl, -⟩ := hv4.form
          have hgr := bgrow wc (.cells #[.slice g4 D.prems.length j4, .slice g5 D.rules.length j5, .slice g6 D.proms.length j6] 32)
          have hbd := hb9.trans (Below.mono hgr hb9.size)
          have HB10 := hidIt (HB7.out.trans (Below.mono hbd HB7.out.size))
          have HG10 := hidIt (HG7.out.below hbd)
          have HD10 := hidIt (blk_kept2 HD7.out hbd)
          have HK10 := hidIt (hv4.below hgr)
          have HE10 := hidIt (heap_alloc_new wc (.cells #[.slice g4 D.prems.length j4, .slice g5 D.rules.length j5, .slice g6 D.proms.length j6] 32))
          clear hv4 hb9 hgr hbd HB7 HG7 HD7 HPA HPR
          go_upto_region 18 with (fail)
          generalize (wc.alloc (.cells #[.slice g4 D.prems.length j4, .slice g5 D.rules.length j5, .slice g6 D.proms.length j6] 32)) = wd at *
          generalize wc.heap.size = pd at *
          obtain ⟨f0, f1, f2⟩ := bcell3 HD10.out
          obtain ⟨e0, e1, e2⟩ := bcell3 HE10.out
          have fl := lt_of_block HD10.out
          have el := lt_of_block HE10.out
          have hmm : ((m : Int) != (m : Int)) = false := bne_self_eq_false _
          have hzz : (z != z) = false := bne_self_eq_false _
          go_wp2_with fail
          refine (r5same_true D _ _ _ HG10.out HK10.out).mono ?_
          rintro e we ⟨rfl, hbd⟩
          have HB11 := hidIt (HB10.out.trans (Below.mono hbd HB10.out.size))
          clear hbd f0 f1 f2 fl e0 e1 e2 el
          go_wp2_with fail
          go_roundw
          case rel => exact ⟨k + 1, by omega, by go_num, HB11.out⟩
          case measure => simp [intOf]; omega
        · obtain rfl : k = 8 := by omega
          go_wp2_with fail
          refine (awake5_any _ HEw.out).mono ?_
          rintro e wz ⟨rfl, hbz⟩
          have HBz := hidIt (HBw.out.trans (hbz.mono HBw.out.size))
          clear hbz
          go_wp2_with fail
          go_ret
          exact ⟨rfl, HBz.out⟩
  )

end Go.Proofs.YtfcoplplkbeljaaGreatDoor
