/- The law LiteralTexts: the call answers true for every text, every literal and every list of numbers. -/
import Derived.Test.YtepahdjijddiiaaRefL
import Derived.Test.YtepahdjijddiiaaOdd
import Derived.Test.YtepahdjijddiiaaBackW
namespace Go.Proofs.Ytepahdjijddiiaa
open Go.RowKit Go.Sort

/-- Where a literal lies in a block of its own, from a world on. -/
structure YS (w0 : World) (yb : Nat) (g : Bool) (s : ByteArray) (w : World) : Prop where
  k : w.heap[yb]? = some (.cells #[.bool g, .string s] 23 (0, 0))
  bel : Below w0.heap.size w0 w
theorem YS.go {w0 w w' : World} {yb : Nat} {g : Bool} {s : ByteArray} (h : YS w0 yb g s w) (hb : Below w.heap.size w w') : YS w0 yb g s w' := ⟨block_kept h.k hb, h.bel.trans (hb.mono h.bel.size)⟩
theorem YS.alloc {w0 w : World} {yb : Nat} {g : Bool} {s : ByteArray} (h : YS w0 yb g s w) (o : Obj) : YS w0 yb g s (w.alloc o) := h.go ((Below.refl _ _).alloc (Nat.le_refl _) o)
theorem YS.drew {w0 w : World} {yb : Nat} {g : Bool} {s : ByteArray} (h : YS w0 yb g s w) : YS w0 yb g s w.drew := ⟨h.k, h.bel.drew⟩
theorem YS.all {w0 w' : World} {yb : Nat} {g : Bool} {s : ByteArray} (h : YS w0 yb g s w') : w'.cell? ⟨yb, 0, none⟩ = some (.bool g) ∧ w'.cell? ⟨yb, 1, none⟩ = some (.string s) ∧ Hid (YS w0 yb g s w') := ⟨cell_two0 h.k, cell_two1 h.k, h⟩

theorem validName_ys {w0 : World} {yb : Nat} {g : Bool} {s : ByteArray} (hm : s.size ≤ maxLen) (w : World) (h : YS w0 yb g s w) :
    Calls Try.prog 12 #[.string s] w fun e w' => e = .returned (.bool (vn s)) ∧ YS w0 yb g s w' :=
  (validName_any s w hm).mono fun _ _ ⟨he, hb⟩ => ⟨he, by rw [← hb]; exact h⟩
theorem rValidName_ys {w0 : World} {yb : Nat} {g : Bool} {s : ByteArray} (hm : s.size ≤ maxLen) (w : World) (h : YS w0 yb g s w) :
    Calls Try.prog 13 #[.string s] w fun e w' => e = .returned (.bool (vn s)) ∧ YS w0 yb g s w' :=
  (rValidName_any s w hm).mono fun _ _ ⟨he, hb⟩ => ⟨he, by rw [← hb]; exact h⟩
theorem valid_ys {w0 : World} {yb : Nat} {g : Bool} {s : ByteArray} (hm : s.size ≤ maxLen) (w : World) (h : YS w0 yb g s w) :
    Calls Try.prog 14 #[.agg #[.bool g, .string s]] w fun e w' => e = .returned (.bool (vn s)) ∧ YS w0 yb g s w' :=
  (valid_any g s w hm).mono fun _ _ ⟨he, hb⟩ => ⟨he, h.go hb⟩
theorem rValid_ys {w0 : World} {yb : Nat} {g : Bool} {s : ByteArray} (hm : s.size ≤ maxLen) (w : World) (h : YS w0 yb g s w) :
    Calls Try.prog 15 #[.agg #[.bool g, .string s]] w fun e w' => e = .returned (.bool (vn s)) ∧ YS w0 yb g s w' :=
  (rValid_any g s w hm).mono fun _ _ ⟨he, hb⟩ => ⟨he, h.go hb⟩
theorem format_ys {w0 : World} {yb : Nat} {g : Bool} {s : ByteArray} (hm : s.size ≤ maxLen) (w : World) (h : YS w0 yb g s w) :
    Calls Try.prog 16 #[.agg #[.bool g, .string s]] w fun e w' => e = .returned (.string (fmtB g s)) ∧ YS w0 yb g s w' :=
  (format_any g s w hm).mono fun _ _ ⟨he, hb⟩ => ⟨he, h.go hb⟩
theorem rFormat_ys {w0 : World} {yb : Nat} {g : Bool} {s : ByteArray} (hm : s.size ≤ maxLen) (w : World) (h : YS w0 yb g s w) :
    Calls Try.prog 17 #[.agg #[.bool g, .string s]] w fun e w' => e = .returned (.string (fmtB g s)) ∧ YS w0 yb g s w' :=
  (rFormat_any g s w hm).mono fun _ _ ⟨he, hb⟩ => ⟨he, h.go hb⟩

/-- A reader and a literal, from a world on. -/
structure RS (w0 : World) (B b : Nat) (zs : List Int) (yb : Nat) (g : Bool) (s : ByteArray) (w : World) : Prop where
  k : w.heap[yb]? = some (.cells #[.bool g, .string s] 23 (0, 0))
  src : ∃ q, SrcAt w B b zs q
  ne : yb ≠ b
  bel : Below B w0 w
theorem RS.alloc {w0 w : World} {B b : Nat} {zs : List Int} {yb : Nat} {g : Bool} {s : ByteArray} (h : RS w0 B b zs yb g s w) (o : Obj) : RS w0 B b zs yb g s (w.alloc o) := by
  obtain ⟨q, hq⟩ := h.src
  have := hq.base
  have := hq.lt
  exact ⟨block_kept h.k ((Below.refl _ _).alloc (Nat.le_refl _) o), ⟨q, hq.alloc o⟩, h.ne, h.bel.alloc (by omega) o⟩
theorem RS.drew {w0 w : World} {B b : Nat} {zs : List Int} {yb : Nat} {g : Bool} {s : ByteArray} (h : RS w0 B b zs yb g s w) : RS w0 B b zs yb g s w.drew := by
  obtain ⟨q, hq⟩ := h.src
  exact ⟨h.k, ⟨q, hq.drewN 1⟩, h.ne, h.bel.drew⟩
theorem RS.read {w0 w w' : World} {B b : Nat} {zs : List Int} {yb : Nat} {g : Bool} {s : ByteArray} (h : RS w0 B b zs yb g s w) {q : Nat} (hs : SrcAt w' B b zs q) (hg : w.grownBy w' (some b)) : RS w0 B b zs yb g s w' := by
  obtain ⟨q0, hq⟩ := h.src
  exact ⟨by rw [hg.block yb (lt_of_block h.k) (fun e => h.ne (by injection e))]; exact h.k, ⟨q, hs⟩, h.ne, below_only h.bel hg hq.base hq.lt⟩
theorem RS.all {w0 w' : World} {B b : Nat} {zs : List Int} {yb : Nat} {g : Bool} {s : ByteArray} (h : RS w0 B b zs yb g s w') : w'.cell? ⟨yb, 0, none⟩ = some (.bool g) ∧ w'.cell? ⟨yb, 1, none⟩ = some (.string s) ∧ Hid (RS w0 B b zs yb g s w') := ⟨cell_two0 h.k, cell_two1 h.k, h⟩

theorem slit_rs {w0 : World} {B b : Nat} {zs : List Int} {yb : Nat} {g : Bool} {s : ByteArray} (n : Int) (hn : 1 ≤ n) (hn' : n ≤ 26) (w : World) (h : RS w0 B b zs yb g s w) :
    Calls Try.prog 11 #[.pointer (some ⟨b, 0, none⟩), .int .i64 n] w fun e w' => ∃ (g1 : Bool) (s1 : ByteArray), e = .returned (.agg #[.bool g1, .string s1]) ∧ s1.size ≤ 200 ∧ RS w0 B b zs yb g s w' := by
  obtain ⟨q, hq⟩ := h.src
  refine (slit_any n hn hn' B b zs q w hq).mono ?_
  rintro e w' ⟨g1, m, k', rfl, hm, hs, hg⟩
  exact ⟨g1, letter m, rfl, by show (1 : Nat) ≤ 200; omega, h.read hs hg⟩
theorem odd_rs {w0 : World} {B b : Nat} {zs : List Int} {yb : Nat} {g : Bool} {s : ByteArray} (w : World) (h : RS w0 B b zs yb g s w) :
    Calls Try.prog 10 #[.pointer (some ⟨b, 0, none⟩)] w fun e w' => ∃ (g1 : Bool) (s1 : ByteArray), e = .returned (.agg #[.bool g1, .string s1]) ∧ s1.size ≤ 200 ∧ RS w0 B b zs yb g s w' := by
  obtain ⟨q, hq⟩ := h.src
  refine (odd_any B b zs q w hq).mono ?_
  rintro e w' ⟨g1, s1, k', rfl, hz, hs, hg⟩
  exact ⟨g1, s1, rfl, hz, h.read hs hg⟩

theorem tilde_size (s : ByteArray) : (⟨#[126]⟩ ++ s : ByteArray).size = s.size + 1 := by
  rw [ByteArray.size_append]
  show 1 + s.size = _
  omega
theorem fmtB_le (g : Bool) (s : ByteArray) : (fmtB g s).size ≤ s.size + 1 := by
  unfold fmtB
  split
  · split
    · rw [tilde_size]; exact Nat.le_refl _
    · omega
  · exact Nat.zero_le _

theorem row_facts {w : World} {b : Nat} {c : Array Value} (xs : List Lt) (h : w.heap[b]? = some (.cells c 23 (0, 0))) (hc : c.toList = xs.flatMap encL) :
    ∀ i, i < xs.length → w.cell? ⟨b, i * 2, none⟩ = some (.bool (xs[i]!).neg) ∧ w.cell? ⟨b, i * 2 + 1, none⟩ = some (.string (xs[i]!).name) := by
  have key : ∀ (xs : List Lt) (i : Nat), i < xs.length → (xs.flatMap encL)[i * 2]? = some (.bool (xs[i]!).neg) ∧ (xs.flatMap encL)[i * 2 + 1]? = some (.string (xs[i]!).name) := by
    intro xs
    induction xs with
    | nil => intro i hi; simp at hi
    | cons x r ih =>
      intro i hi
      match i, hi with
      | 0, _ => exact ⟨rfl, rfl⟩
      | i + 1, hi =>
        have := ih i (by simpa using hi)
        rw [List.flatMap_cons, show (i + 1) * 2 = i * 2 + 1 + 1 by omega]
        exact this
  intro i hi
  have := key xs i hi
  rw [← hc, Array.getElem?_toList, Array.getElem?_toList] at this
  simp only [World.cell?, h]
  exact this

set_option maxRecDepth 100000 in
set_option maxHeartbeats 2000000 in
theorem texts_walk (t : ByteArray) (g : Bool) (s : ByteArray) (l : Value) (zs : List Int) (w : World) (ht : t.size ≤ 200) (hs : s.size ≤ 200) (hl : IntsAt w w.heap.size l zs) :
    Calls Try.prog 3 #[.string t, .agg #[.bool g, .string s], l] w fun e w' => e = .returned (.bool true) ∧ Below w.heap.size w w' := by
  have HL := hidIt (hl.kept (World.grownBy_alloc w (.cells #[.bool g, .string s] 23) none) (fun g e => by cases e))
  clear hl
  have ht' : (t.size : Int) ≤ 200 := by omega
  have hs' : (s.size : Int) ≤ 200 := by omega
  go_enter Try.func3, Try.ntmps3
  go_wp2_with fail
  refine (new_any l zs w.heap.size _ HL.out (by simp)).mono ?_
  rintro e w1 ⟨zs', rfl, hs1, o, hw1⟩
  have hR : RS w w.heap.size (w.heap.size + 1) zs' w.heap.size g s w1 := by
    have e1 : (w.alloc (.cells #[.bool g, .string s] 23)).heap.size = w.heap.size + 1 := by simp
    rw [e1] at hs1
    subst hw1
    exact ⟨block_kept (heap_alloc_new w _) ((Below.refl _ _).alloc (Nat.le_refl _) _), ⟨0, hs1⟩, by omega, ((Below.refl _ _).alloc (Nat.le_refl _) _).alloc (by simp) _⟩
  clear hs1 hw1 HL
  go_wp2_with fail
  go_region_held3 (fun w' => w'.cell? ⟨w.heap.size, 0, none⟩ = some (.bool g) ∧ w'.cell? ⟨w.heap.size, 1, none⟩ = some (.string s) ∧ Hid (RS w w.heap.size (w.heap.size + 1) zs' w.heap.size g s w'))
    (first
      | exact hR.drew.all
      | exact hr2.all
      | exact hr3.all
      | (go_split_ands; exact (RS.alloc (Hid.out (by assumption)) _).all))
    (first
      | (go_at_call 10; refine (odd_rs (w0 := w) (B := w.heap.size) (b := w.heap.size + 1) (zs := zs') (yb := w.heap.size) (g := g) (s := s) _ ?_).mono ?_; (go_split_ands; exact Hid.out (by assumption)); rintro e w2 ⟨g2, s2, rfl, hz2, hr2⟩)
      | (go_at_call 11; refine (slit_rs (w0 := w) (B := w.heap.size) (b := w.heap.size + 1) (zs := zs') (yb := w.heap.size) (g := g) (s := s) 26 (by omega) (by omega) _ ?_).mono ?_; (go_split_ands; exact Hid.out (by assumption)); rintro e w3 ⟨g3, s3, rfl, hz3, hr3⟩))
  have HB3 := hidIt ((hr3.alloc (.cells #[.bool g, .string s, .bool g2, .string s2, .bool g3, .string s3, .bool false, .string t, .bool true, .string t] 23)).bel)
  have HR := hidIt (row_facts [⟨g, s⟩, ⟨g2, s2⟩, ⟨g3, s3⟩, ⟨false, t⟩, ⟨true, t⟩] (heap_alloc_new w3 (.cells #[.bool g, .string s, .bool g2, .string s2, .bool g3, .string s3, .bool false, .string t, .bool true, .string t] 23)) rfl)
  have HZ : Hid (∀ i, i < 5 → (([⟨g, s⟩, ⟨g2, s2⟩, ⟨g3, s3⟩, ⟨false, t⟩, ⟨true, t⟩] : List Lt)[i]!).name.size ≤ 200) := fun i hi => by
    match i, hi with
    | 0, _ => exact hs
    | 1, _ => exact hz2
    | 2, _ => exact hz3
    | 3, _ => exact ht
    | 4, _ => exact ht
  clear hr2 hr3 hR
  generalize hxs : ([⟨g, s⟩, ⟨g2, s2⟩, ⟨g3, s3⟩, ⟨false, t⟩, ⟨true, t⟩] : List Lt) = xs at HR HZ
  have hlen : Hid (xs.length = 5) := by show _ = _; rw [← hxs]; rfl
  clear hxs
  have hlb : Hid (w3.heap.size < (w3.alloc (.cells #[.bool g, .string s, .bool g2, .string s2, .bool g3, .string s3, .bool false, .string t, .bool true, .string t] 23)).heap.size) := by show _ < _; simp
  go_wp2_with fail
  generalize (w3.alloc (.cells #[.bool g, .string s, .bool g2, .string s2, .bool g3, .string s3, .bool false, .string t, .bool true, .string t] 23)) = w4 at HB3 HR hlb ⊢
  generalize w3.heap.size = lb at HR hlb ⊢
  go_loopw [38] (fun i wr => ∃ k : Nat, k ≤ 5 ∧ i = .int .i64 k ∧ Hid (Below w4.heap.size w4 wr)) (fun i _ => 5 - (intOf i).toNat)
  case atStart => exact ⟨0, by omega, rfl, Below.refl _ _⟩
  case round =>
    obtain ⟨k, hk, rfl, hbr⟩ := hrel
    by_cases hlt : k < 5
    · obtain ⟨c0, c1⟩ := HR.out k (by rw [hlen.out]; exact hlt)
      have hzz := HZ.out k hlt
      rw [← hbr.out.cell (p := ⟨lb, k * 2, none⟩) hlb.out] at c0
      rw [← hbr.out.cell (p := ⟨lb, k * 2 + 1, none⟩) hlb.out] at c1
      generalize xs[k]! = y at c0 c1 hzz
      obtain ⟨gy, sy⟩ := y
      simp only at c0 c1 hzz
      go_wp2_with fail
      have hY : YS wr wr.heap.size gy sy (wr.alloc (.cells #[.bool gy, .string sy] 23)) := ⟨heap_alloc_new wr _, (Below.refl _ _).alloc (Nat.le_refl _) _⟩
      have hm : sy.size ≤ maxLen := by unfold maxLen; omega
      clear c0 c1
      go_region_held3 (fun w' => w'.cell? ⟨wr.heap.size, 0, none⟩ = some (.bool gy) ∧ w'.cell? ⟨wr.heap.size, 1, none⟩ = some (.string sy) ∧ Hid (YS wr wr.heap.size gy sy w'))
        (first
          | exact hY.drew.all
          | exact hy1.all
          | exact hy2.all
          | exact hy3.all
          | exact hy4.all
          | exact hy5.all
          | exact hy6.all
          | (go_split_ands; exact (YS.alloc (Hid.out (by assumption)) _).all))
        (first
        | (go_at_call 12; refine (validName_ys (w0 := wr) (yb := wr.heap.size) (g := gy) (s := sy) hm _ ?_).mono ?_; (go_split_ands; exact Hid.out (by assumption)); rintro e w1 ⟨rfl, hy1⟩)
        | (go_at_call 13; refine (rValidName_ys (w0 := wr) (yb := wr.heap.size) (g := gy) (s := sy) hm _ ?_).mono ?_; (go_split_ands; exact Hid.out (by assumption)); rintro e w2 ⟨rfl, hy2⟩)
        | (go_at_call 14; refine (valid_ys (w0 := wr) (yb := wr.heap.size) (g := gy) (s := sy) hm _ ?_).mono ?_; (go_split_ands; exact Hid.out (by assumption)); rintro e w3 ⟨rfl, hy3⟩)
        | (go_at_call 15; refine (rValid_ys (w0 := wr) (yb := wr.heap.size) (g := gy) (s := sy) hm _ ?_).mono ?_; (go_split_ands; exact Hid.out (by assumption)); rintro e w4 ⟨rfl, hy4⟩)
        | (go_at_call 16; refine (format_ys (w0 := wr) (yb := wr.heap.size) (g := gy) (s := sy) hm _ ?_).mono ?_; (go_split_ands; exact Hid.out (by assumption)); rintro e w5 ⟨rfl, hy5⟩)
        | (go_at_call 17; refine (rFormat_ys (w0 := wr) (yb := wr.heap.size) (g := gy) (s := sy) hm _ ?_).mono ?_; (go_split_ands; exact Hid.out (by assumption)); rintro e w6 ⟨rfl, hy6⟩))
      have hY6 := hy6
      clear hy1 hy2 hy3 hy4 hy5 hy6 hY
      have hadd1 : (1 : Int) + (sy.size : Int) ≤ 9223372036854775807 := by omega
      have hadd2 : 1 + sy.size ≤ 9223372036854775807 := by omega
      have hadd3 : (⟨#[126]⟩ : ByteArray).size + sy.size ≤ 9223372036854775807 := by show 1 + sy.size ≤ _; omega
      have hadd4 : ∀ w, (Op.stringOp .add ⟨#[126]⟩ sy).run Try.prog w = .ok (.string (⟨#[126]⟩ ++ sy)) w := fun w => run_string_add_sum w _ _ hadd3
      go_wp2_with fail
      go_region_held3 (fun w' => w'.cell? ⟨wr.heap.size, 0, none⟩ = some (.bool gy) ∧ w'.cell? ⟨wr.heap.size, 1, none⟩ = some (.string sy) ∧ Hid (YS wr wr.heap.size gy sy w'))
        (first
          | exact hY6.drew.all
          | exact hy7.all
          | (go_split_ands; exact (YS.alloc (Hid.out (by assumption)) _).all))
        (first
          | (go_at_call 17; refine (rFormat_ys (w0 := wr) (yb := wr.heap.size) (g := gy) (s := sy) hm _ ?_).mono ?_; (go_split_ands; exact Hid.out (by assumption)); rintro e w7 ⟨rfl, hy7⟩))
      have hB7 := hidIt (hy7.alloc (.cells #[.string t, .string sy, .string (⟨#[126]⟩ ++ sy), .string (fmtB gy sy)] 9)).bel
      have hSS := hidIt (show (w7.alloc (.cells #[.string t, .string sy, .string (⟨#[126]⟩ ++ sy), .string (fmtB gy sy)] 9)).heap[w7.heap.size]? = some (.cells (strRow [t, sy, ⟨#[126]⟩ ++ sy, fmtB gy sy]) 9 (0, 0)) from heap_alloc_new w7 _)
      have hsz : Hid (∀ u ∈ ([t, sy, ⟨#[126]⟩ ++ sy, fmtB gy sy] : List ByteArray), u.size ≤ maxLen) := fun u hu => by
        simp only [List.mem_cons, List.not_mem_nil, or_false] at hu
        have h1 := fmtB_le gy sy
        have h2 := tilde_size sy
        unfold maxLen
        rcases hu with rfl | rfl | rfl | rfl <;> omega
      clear hy7 hY6
      have hsl : Hid (([t, sy, ⟨#[126]⟩ ++ sy, fmtB gy sy] : List ByteArray).length = 4) := rfl
      have hlb2 : Hid (w7.heap.size < (w7.alloc (.cells #[.string t, .string sy, .string (⟨#[126]⟩ ++ sy), .string (fmtB gy sy)] 9)).heap.size) := by show _ < _; simp
      clear hadd1 hadd2 hadd3 hadd4
      generalize ([t, sy, ⟨#[126]⟩ ++ sy, fmtB gy sy] : List ByteArray) = ss at hSS hsz hsl
      go_wp2_with fail
      generalize (w7.alloc (.cells #[.string t, .string sy, .string (⟨#[126]⟩ ++ sy), .string (fmtB gy sy)] 9)) = w8 at hB7 hSS hlb2 ⊢
      generalize w7.heap.size = lb2 at hSS hlb2 ⊢
      obtain ⟨wo, rfl⟩ : ∃ wo : World, wo = wr := ⟨_, rfl⟩
      go_loopw [73] (fun i wr => ∃ k2 : Nat, k2 ≤ 4 ∧ i = .int .i64 k2 ∧ Hid (Below w8.heap.size w8 wr)) (fun i _ => 4 - (intOf i).toNat)
      case atStart => exact ⟨0, by omega, rfl, Below.refl _ _⟩
      case round =>
        obtain ⟨k2, hk2, rfl, hbr2⟩ := hrel
        by_cases hlt2 : k2 < 4
        · have hk3 : k2 < ss.length := by rw [hsl.out]; exact hlt2
          have c0 := str_cell hSS.out k2 hk3
          rw [← hbr2.out.cell (p := ⟨lb2, k2, none⟩) hlb2.out] at c0
          have hus : ss[k2].size ≤ maxLen := hsz.out _ (List.getElem_mem hk3)
          generalize ss[k2] = u at c0 hus
          have hp1 := fun W => parse_any u W hus
          have hp2 := fun W => rParse_any u W hus
          generalize parsedNeg u = pn at hp1 hp2
          generalize parsedName u = pm at hp1 hp2
          generalize parsedErr u = pe at hp1 hp2
          have HP1 := hidIt hp1
          have HP2 := hidIt hp2
          clear hp1 hp2
          go_wp2_with fail
          refine (HP1.out _).mono ?_
          rintro e w9 ⟨rfl, hb9⟩
          go_wp2_with fail
          refine (HP2.out _).mono ?_
          rintro e w10 ⟨rfl, hb10⟩
          have K10 := laid_two (w := w9) (only_of_below hb10 none) (by simp)
          have d0 := cell_two0 K10
          have d1 := cell_two1 K10
          have hz10 := lt_of_block K10
          have HB10 := hidIt ((hbr2.out.trans (hb9.mono hbr2.out.size)).trans ((below_of_alloc hb10).mono (Nat.le_trans hbr2.out.size hb9.size)))
          clear hb9 hb10 K10
          have hq : ∀ w, (Op.equalIn 10000 23 (.agg #[.bool pn, .string pm]) (.agg #[.bool pn, .string pm])).run Try.prog w = .ok true w := fun w => by rw [eqFieldsL]; simp
          have hgd := fun (op : BinOp) (a b : Operand) (w : World) => gdL op a b pn pn pm pm w
          go_wp2
          go_roundw
          case rel => exact ⟨k2 + 1, by omega, by go_num, HB10.out.alloc HB10.out.size _⟩
          case measure => simp [intOf]; omega
        · go_wp2
          go_roundw
          case rel => exact ⟨k + 1, by omega, by go_num, (hbr.out.trans (hB7.out.mono hbr.out.size)).trans (hbr2.out.mono (Nat.le_trans hbr.out.size hB7.out.size))⟩
          case measure => simp [intOf]; omega
    · go_wp2_with fail
      refine (awake_any _).mono ?_
      rintro e w5 ⟨rfl, hb5⟩
      have HB5 := hidIt ((HB3.out.trans (hbr.out.mono HB3.out.size)).trans (hb5.mono (Nat.le_trans HB3.out.size hbr.out.size)))
      clear hb5
      go_wp2
      go_ret
      exact ⟨rfl, HB5.out⟩

set_option maxHeartbeats 400000 in
theorem texts_long (t : ByteArray) (g : Bool) (s : ByteArray) (l : Value) (w : World) (ht : t.size ≤ maxLen) (hs : s.size ≤ maxLen) (h : 200 < t.size ∨ 200 < s.size) :
    Calls Try.prog 3 #[.string t, .agg #[.bool g, .string s], l] w fun e w' => e = .returned (.bool true) ∧ Below w.heap.size w w' := by
  unfold maxLen at ht hs
  by_cases h1 : 200 < t.size
  · have h1' : (200 : Int) < t.size := by omega
    go_enter Try.func3, Try.ntmps3
    go_wp2
    go_ret
    exact ⟨rfl, (Below.refl _ _).alloc (Nat.le_refl _) _⟩
  · have h1' : (t.size : Int) ≤ 200 := by omega
    have h2' : (200 : Int) < s.size := by omega
    go_enter Try.func3, Try.ntmps3
    go_wp2
    go_ret
    exact ⟨rfl, (Below.refl _ _).alloc (Nat.le_refl _) _⟩

/-- LiteralTexts, for every text, every literal and every list of numbers. -/
theorem texts_any (t : ByteArray) (g : Bool) (s : ByteArray) (l : Value) (zs : List Int) (w : World) (ht : t.size ≤ maxLen) (hs : s.size ≤ maxLen) (hl : IntsAt w w.heap.size l zs) :
    Calls Try.prog 3 #[.string t, .agg #[.bool g, .string s], l] w fun e w' => e = .returned (.bool true) ∧ Below w.heap.size w w' := by
  by_cases h : t.size ≤ 200 ∧ s.size ≤ 200
  · exact texts_walk t g s l zs w h.1 h.2 hl
  · exact texts_long t g s l w ht hs (by omega)
end Go.Proofs.Ytepahdjijddiiaa
