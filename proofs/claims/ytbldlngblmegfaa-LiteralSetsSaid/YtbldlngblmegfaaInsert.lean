/- The reference's Insert. -/
import Derived.Test.YtbldlngblmegfaaRefN
import Derived.Test.YtbldlngblmegfaaIn
import Derived.Test.YtbldlngblmegfaaAppL
namespace Go.Proofs.Ytbldlngblmegfaa
open Go.RowKit Go.Sort

theorem blk_kept0 {w w1 : World} {b : Nat} {o : Obj} (h : w.heap[b]? = some o) (hb : Below w.heap.size w w1) : w1.heap[b]? = some o := by
  rw [hb.block b (lt_of_block h)]
  exact h

theorem below_drew {a w : World} {B : Nat} (h : Below B a w) (n : Nat) : Below B a (w.drewN n) := ⟨h.os, h.tape, h.output, h.size, h.block⟩

/-- One more element in an ascending list. -/
def insL (x : Lt) : List Lt → List Lt
  | [] => [x]
  | y :: ys => if cmpI y x < 0 then y :: insL x ys else if y = x then y :: ys else x :: y :: ys

theorem insL_split (x : Lt) : ∀ (xs : List Lt) (k : Nat), k ≤ xs.length → (∀ y ∈ xs.take k, cmpI y x < 0) → insL x xs = xs.take k ++ insL x (xs.drop k)
  | xs, 0, _, _ => rfl
  | [], k + 1, hk, _ => by simp at hk
  | y :: ys, k + 1, hk, h => by
    have h1 : cmpI y x < 0 := h y (by simp)
    rw [insL, if_pos h1, insL_split x ys k (by simpa using hk) fun z hz => h z (by simp [hz])]
    simp
theorem insL_end (x : Lt) (xs : List Lt) (h : ∀ y ∈ xs.take xs.length, cmpI y x < 0) : insL x xs = (xs ++ [x]) ++ [] := by
  rw [insL_split x xs xs.length (Nat.le_refl _) h]
  simp [insL]
theorem insL_at (x : Lt) (xs : List Lt) (k : Nat) (hk : k < xs.length) (h : ∀ y ∈ xs.take k, cmpI y x < 0) (h1 : ¬ cmpI xs[k]! x < 0) :
    insL x xs = if xs[k]! = x then xs else (xs.take k ++ [x]) ++ xs.drop k := by
  rw [insL_split x xs k (Nat.le_of_lt hk) h]
  rw [getElem!_pos xs k hk] at *
  rw [List.drop_eq_getElem_cons hk, insL, if_neg h1]
  by_cases he : xs[k] = x
  · rw [if_pos he, if_pos he]
    conv => rhs; rw [← List.take_append_drop k xs, List.drop_eq_getElem_cons hk]
  · rw [if_neg he, if_neg he]
    simp

theorem ins_below {w w0 W w6 w8 w9 : World} {o : Obj} {r8 r9 : Option Nat} (h0 : Below w.heap.size w w0) (hlt : w.heap.size < w0.heap.size) (h7 : Below w0.heap.size w0 w6) (h67 : W.heap.size < w6.heap.size) (h06 : w0.heap.size ≤ W.heap.size)
    (hr8 : ∀ g, r8 = some g → W.heap.size ≤ g) (h8 : ((w6.alloc o).drew).grownBy w8 r8) (hr9 : ∀ g, r9 = some g → W.heap.size ≤ g) (h9 : w8.grownBy w9 r9) : Below w.heap.size w w9 := by
  have h68 : w6.heap.size ≤ w8.heap.size := by
    have h1 : (w6.alloc o).heap.size ≤ w8.heap.size := h8.size
    simp at h1
    omega
  refine h0.trans (Below.mono (B := w0.heap.size) ⟨h9.os.trans (h8.os.trans h7.os), h9.tape.trans (h8.tape.trans h7.tape), h9.output.trans (h8.output.trans h7.output), Nat.le_trans (Nat.le_trans h7.size h68) h9.size, fun i hi => ?_⟩ (Nat.le_of_lt hlt))
  have h1 : w9.heap[i]? = w8.heap[i]? := h9.block i (by omega) (fun e => by have := hr9 i e.symm; omega)
  have h2 : w8.heap[i]? = (w6.alloc o).heap[i]? := h8.block i (by show i < (w6.alloc o).heap.size; simp; omega) (fun e => by have := hr8 i e.symm; omega)
  rw [h1, h2, Below.heap_alloc _ _ _ (by omega)]
  exact h7.block i hi
theorem ite_block {c k b o o' b' off' n n' m m' : Nat} (h : Value.slice (if c = k then some ⟨b, o, none⟩ else some ⟨b, o', none⟩) n m = .slice (some ⟨b', off', none⟩) n' m') : b' = b := by
  injection h with h
  split at h <;> (injection h with h; injection h with h; exact h.symm)
theorem LitsAt.nil0 {w : World} {n c : Nat} {xs : List Lt} (h : LitsAt w (.slice none n c) xs) : xs = [] ∧ c = 0 := by
  rcases h with ⟨h1, rfl⟩ | ⟨b', off', cap, h1, h2, h3, h4, h5⟩
  · injection h1 with e1 e2 e3
    exact ⟨rfl, e3⟩
  · cases h1
theorem LitsAt.plain0 {w : World} {ad : Addr} {n c : Nat} {xs : List Lt} (h : LitsAt w (.slice (some ad) n c) xs) : ∃ b o, ad = ⟨b, o, none⟩ := by
  rcases h with ⟨h1, -⟩ | ⟨b', off', cap, h1, h2, h3, h4, h5⟩
  · cases h1
  · injection h1 with e1
    injection e1 with e1
    exact ⟨b', off', e1⟩
theorem Grows0 (w : World) (o : Obj) : Below w.heap.size w (w.alloc o) := (Below.refl _ _).alloc (Nat.le_refl _) o
theorem LitsAt.lt0 {w : World} {b off n c : Nat} {xs : List Lt} (h : LitsAt w (.slice (some ⟨b, off, none⟩) n c) xs) : b < w.heap.size := by
  rcases h with ⟨h1, -⟩ | ⟨b', off', cap, h1, h2, h3, h4, h5⟩
  · cases h1
  · injection h1 with e1
    injection e1 with e1
    injection e1 with e1
    rw [e1]
    exact h4

theorem LitsAt.caps {w : World} {a : Option Addr} {n c : Nat} {xs : List Lt} (h : LitsAt w (.slice a n c) xs) : xs.length ≤ c ∧ c ≤ maxLen := by
  rcases h with ⟨h1, rfl⟩ | ⟨b, off, cap, h1, h2, h3, h4, h5⟩
  · injection h1 with e1 e2 e3
    subst e3
    exact ⟨Nat.le_refl _, Nat.zero_le _⟩
  · injection h1 with e1 e2 e3
    subst e3
    exact ⟨h2, h3⟩

theorem LitsAt.take {w : World} {a : Option Addr} {n c : Nat} {xs : List Lt} (h : LitsAt w (.slice a n c) xs) (k : Nat) (hk : k ≤ xs.length) : LitsAt w (.slice a k c) (xs.take k) := by
  rcases h with ⟨h1, rfl⟩ | ⟨b, off, cap, h1, h2, h3, h4, h5⟩
  · injection h1 with e1 e2 e3
    subst e1 e2 e3
    obtain rfl : k = 0 := by simpa using hk
    exact .inl ⟨rfl, rfl⟩
  · injection h1 with e1 e2 e3
    subst e1 e2 e3
    have hl : (xs.take k).length = k := by rw [List.length_take]; omega
    refine .inr ⟨b, off, c, by rw [hl], by omega, h3, h4, fun i hi => ?_⟩
    rw [hl] at hi
    have e : (xs.take k)[i]! = xs[i]! := by rw [getElem!_pos (xs.take k) i (by omega), getElem!_pos xs i (by omega), List.getElem_take]
    rw [e]
    exact h5 i (by omega)

set_option maxRecDepth 100000 in
set_option maxHeartbeats 1000000 in
theorem rInsert_any (v : Value) (xs : List Lt) (x : Lt) (w : World) (h : LitsAt w v xs) (hn : xs.length ≤ 1000) :
    Calls Try.prog 46 #[v, .agg #[.bool x.neg, .string x.name]] w fun e w' => ∃ v', e = .returned v' ∧ LitsAt w' v' (insL x xs) ∧ Below w.heap.size w w' := by
  obtain ⟨a, c, rfl, -⟩ := h.form
  obtain ⟨gx, sx⟩ := x
  have HB0 : Hid (Below w.heap.size w (w.alloc (.cells #[.bool gx, .string sx] 23))) := (Below.refl _ _).alloc (Nat.le_refl _) _
  have HX0 := hidIt (heap_alloc_new w (.cells #[.bool gx, .string sx] 23))
  have HL0 := hidIt (h.below HB0.out)
  have hlt0 : w.heap.size < (w.alloc (.cells #[.bool gx, .string sx] 23)).heap.size := by simp
  clear h
  go_enter Try.func46, Try.ntmps46
  go_wp2_with fail
  generalize (w.alloc (.cells #[.bool gx, .string sx] 23)) = w0 at *
  go_loopw [5] (fun i wr => ∃ k : Nat, k ≤ xs.length ∧ i = .int .i64 k ∧ Hid (∀ y ∈ xs.take k, cmpI y ⟨gx, sx⟩ < 0) ∧ Hid (Below w0.heap.size w0 wr)) (fun i _ => xs.length - (intOf i).toNat)
  case atStart => exact ⟨0, Nat.zero_le _, rfl, (fun y hy => by simp at hy), Below.refl _ _⟩
  case round =>
    obtain ⟨k, hk, rfl, hno, hbel⟩ := hrel
    have HX := blk_kept0 HX0.out hbel.out
    have HL := hidIt (HL0.out.below hbel.out)
    have hx0 := cell_two0 HX
    have hx1 := cell_two1 HX
    by_cases hlt : k < xs.length
    · obtain ⟨a', c', e, k1⟩ := HL.out.form
      obtain ⟨b1, o1, ha, p0, p1⟩ := k1 k hlt
      injection e with e1 e2 e3
      subst e1 e3
      subst ha
      have hst : Hid (∀ z, z ∈ xs.take (k + 1) → z ∈ xs.take k ∨ z = xs[k]!) := fun z hz => (mem_take_succ (x := z) hlt).1 hz
      have HAT := hidIt (insL_at ⟨gx, sx⟩ xs k hlt hno.out)
      clear k1
      generalize xs[k]! = y at *
      obtain ⟨gy, sy⟩ := y
      simp only at p0 p1
      have K0 := fun y => Ext.cell p0 y
      have K1 := fun y => Ext.cell p1 y
      have K2 := fun y => Ext.cell hx0 y
      have K3 := fun y => Ext.cell hx1 y
      have HC := hidIt (rCompare_any (⟨gy, sy⟩ : Lt) ⟨gx, sx⟩)
      by_cases hc : cmpI ⟨gy, sy⟩ ⟨gx, sx⟩ < 0
      · go_wp2_with fail
        haveI := Ext.nonempty wr
        refine wp_region_in (Ext wr) (by kernel_rfl) (by kernel_rfl) (Ext.start wr) ?_
        repeat (go_big_quiet_step (refine Ext.call ((HC.out _).mono fun e w' ⟨he, os, hos⟩ => ⟨he, by rw [hos]; exact below_grow _ os⟩)))
        refine wpQuiet_nil ?_
        rintro w5 ⟨⟨_, h5⟩, rfl⟩
        have HB5 : Hid (Below w0.heap.size w0 w5) := hbel.out.trans (Below.mono h5 hbel.out.size)
        clear h5 K0 K1 K2 K3
        go_wp2_with fail
        go_roundw
        case rel => exact ⟨k + 1, by omega, by go_num, (fun z hz => by rcases hst.out z hz with h1 | h1; exact hno.out z h1; rw [h1]; exact hc), HB5⟩
        case measure => simp [intOf]; omega
      · go_wp2_with fail
        haveI := Ext.nonempty wr
        refine wp_region_in (Ext wr) (by kernel_rfl) (by kernel_rfl) (Ext.start wr) ?_
        repeat (go_big_quiet_step (refine Ext.call ((HC.out _).mono fun e w' ⟨he, os, hos⟩ => ⟨he, by rw [hos]; exact below_grow _ os⟩)))
        refine wpQuiet_nil ?_
        rintro w5 ⟨⟨_, h5⟩, rfl⟩
        have HB5 : Hid (Below w0.heap.size w0 w5) := hbel.out.trans (Below.mono h5 hbel.out.size)
        have HL5 := hidIt (HL.out.below h5)
        have HX5 := hidIt (blk_kept0 HX h5)
        have q0 := Ext.cell p0 ⟨w5, h5⟩
        have q1 := Ext.cell p1 ⟨w5, h5⟩
        simp only at q0 q1
        clear h5 K0 K1 K2 K3 p0 p1 hx0 hx1
        obtain ⟨hx0, hx1⟩ : w5.cell? ⟨w.heap.size, 0, none⟩ = some (.bool gx) ∧ w5.cell? ⟨w.heap.size, 1, none⟩ = some (.string sx) := ⟨cell_two0 HX5.out, cell_two1 HX5.out⟩
        have HI := hidIt (HAT.out hc)
        clear HAT
        have hgd := fun (op : BinOp) (a b : Operand) (w : World) => gdL op a b gy gx sy sx w
        cases hxy : decide ((⟨gy, sy⟩ : Lt) = ⟨gx, sx⟩)
        · have hq : ∀ w, (Op.equalIn 10000 23 (.agg #[.bool gy, .string sy]) (.agg #[.bool gx, .string sx])).run Try.prog w = .ok false w := fun w => by rw [eqFieldsL gy gx sy sx, hxy]
          have HXY := hidIt (of_decide_eq_false hxy)
          clear hxy
          go_wp2_with fail
          go_quiet (fail)
          have HB6 : Hid (Below w0.heap.size w0 (w5.drewN nq)) := below_drew HB5.out nq
          have HL6 : Hid (LitsAt (w5.drewN nq) (.slice (some ⟨b1, o1, none⟩) xs.length c) xs) := HL5.out.below (below_drew (Below.refl _ _) nq)
          have HX6 : Hid ((w5.drewN nq).heap[w.heap.size]? = some (.cells #[.bool gx, .string sx] 23 (0, 0))) := HX5.out
          have HI6 : Hid (insL ⟨gx, sx⟩ xs = (xs.take k ++ [⟨gx, sx⟩]) ++ xs.drop k) := by show _ = _; rw [HI.out, if_neg HXY.out]
          clear HI HXY hq hgd q0 q1 hx0 hx1 HB5 HL5 HX5
          generalize w5.drewN nq = W at *
          have HM6 := hidIt (OwnL.made W W.heap.size (Nat.le_refl _))
          have hgm : W.grownBy (W.alloc (.cells #[] 23)) none := only_alloc (only_refl _ _) _
          have HT6 := hidIt ((HL6.out.take k hk).grow hgm)
          have hsz6 := HB6.out.size
          have hlk : (xs.take k).length = k := by rw [List.length_take]; omega
          obtain ⟨hcl, hcm⟩ := HL6.out.caps
          have hkc : k ≤ c := by omega
          unfold maxLen at hcm
          clear hgm
          go_wp2_with (at_builtin; refine wpList_append_lits rfl _ _ rfl W.heap.size _ [] rfl HM6.out _ (xs.take k) rfl HT6.out (by simp; omega) (by simp) ?_)
          intro v6 w6 ho6 hg6 hne6
          have hsz7 : W.heap.size < w6.heap.size := by have := hg6.size; simp at this; omega
          have hblk : ∀ i, i < W.heap.size → w6.heap[i]? = W.heap[i]? := fun i hi => by
            rw [hg6.block i (by simp; omega) (fun e => by simp [Value.ownBlock] at e; omega)]
            exact Below.heap_alloc _ _ _ hi
          have HX7 : Hid (w6.heap[w.heap.size]? = some (.cells #[.bool gx, .string sx] 23 (0, 0))) := by show _ = _; rw [hblk _ (lt_of_block HX6.out)]; exact HX6.out
          have HB7 : Hid (Below w0.heap.size w0 w6) := ⟨hg6.os.trans HB6.out.os, hg6.tape.trans HB6.out.tape, hg6.output.trans HB6.out.output, Nat.le_trans hsz6 (Nat.le_of_lt hsz7), fun i hi => (hblk i (Nat.lt_of_lt_of_le hi hsz6)).trans (HB6.out.block i hi)⟩
          have hbW : b1 < W.heap.size := HL6.out.lt0
          have HL7 : Hid (LitsAt w6 (.slice (some ⟨b1, o1, none⟩) xs.length c) xs) := LitsAt.kept (HL6.out.below (Grows0 W _)) hg6 (fun g e b' off' cap' e2 => by
            simp [Value.ownBlock] at e
            injection e2 with e2
            injection e2 with e2
            injection e2 with e2
            omega)
          have HO7 : Hid (OwnL (w6.drew.alloc (.cells #[.bool gx, .string sx] 23)) W.heap.size v6 (xs.take k)) := ho6.below ((Below.refl _ _).drew.alloc (Nat.le_refl _) _)
          have HR7 : Hid (LitsAt (w6.drew.alloc (.cells #[.bool gx, .string sx] 23)) (.slice (some ⟨w6.heap.size, 0, none⟩) 1 1) [⟨gx, sx⟩]) := lits_one (heap_alloc_new w6.drew _)
          have HL7' : Hid (LitsAt (w6.drew.alloc (.cells #[.bool gx, .string sx] 23)) (.slice (if c = k then some ⟨b1, o1, none⟩ else some ⟨b1, o1 + k * 2, none⟩) (xs.length - k) (c - k)) (xs.drop k)) := (HL7.out.below ((Below.refl _ _).drew.alloc (Nat.le_refl _) _)).drop' k hk
          have hob : ∀ g, v6.ownBlock = some g → W.heap.size ≤ g ∧ g < w6.heap.size := ho6.own_block
          have HOB := hidIt hob
          have hx0 := cell_two0 HX7.out
          have hx1 := cell_two1 HX7.out
          have hd7 : (xs.drop k).length = xs.length - k := by rw [List.length_drop]
          clear ho6 hg6 hob hblk HX HX0 HM6 HT6 HL0 HL
          go_wp2_with fail
          go_region_law (first
            | (refine step_append_lits (by rfl) (.tmp 40) (.tmp 42) (by rfl) W.heap.size v6 (xs.take k) (by rfl) HO7.out _ [⟨gx, sx⟩] (by rfl) HR7.out (by simp; omega) (by simp; omega) ?_
               intro v8 w8 ho8 hg8
               have HL8 : LitsAt w8 (.slice (if c = k then some ⟨b1, o1, none⟩ else some ⟨b1, o1 + k * 2, none⟩) (xs.length - k) (c - k)) (xs.drop k) := HL7'.out.kept hg8 (fun g e b' off' cap' e2 => by have h1 := (HOB.out g e).1; have h2 := ite_block e2; omega))
            | (refine step_append_lits (by rfl) (.tmp 43) (.tmp 46) (by rfl) W.heap.size v8 (xs.take k ++ [⟨gx, sx⟩]) (by rfl) ho8 _ (xs.drop k) (by rfl) HL8 (by simp; omega) (by have := hg8.size; simp at this; omega) ?_
               have ho9b := ho8.own_block
               intro v9 w9 ho9 hg9))
          go_wp2_with fail
          go_ret
          refine ⟨_, rfl, by rw [HI6.out]; exact ho9.lits.lits, ins_below HB0.out hlt0 HB7.out hsz7 hsz6 (fun g e => (HOB.out g e).1) hg8 (fun g e => (ho9b g e).1) hg9⟩
        · have hq : ∀ w, (Op.equalIn 10000 23 (.agg #[.bool gy, .string sy]) (.agg #[.bool gx, .string sx])).run Try.prog w = .ok true w := fun w => by rw [eqFieldsL gy gx sy sx, hxy]
          have HXY := hidIt (of_decide_eq_true hxy)
          clear hxy
          go_wp2_with fail
          go_quiet (fail)
          go_wp2_with fail
          go_ret
          refine ⟨_, rfl, ?_, HB0.out.trans (below_drew (HB5.out.mono (Nat.le_of_lt hlt0)) nq)⟩
          rw [HI.out, if_pos HXY.out]
          exact HL5.out
    · have HK : Hid (k = xs.length) := (by omega : k = xs.length)
      have HI6 : Hid (insL ⟨gx, sx⟩ xs = (xs.take k ++ [⟨gx, sx⟩]) ++ xs.drop k) := by
        show _ = _
        have hno' := hno.out
        rw [HK.out] at hno' ⊢
        rw [insL_end ⟨gx, sx⟩ xs hno', List.take_length, List.drop_length]
      clear hno
      cases a with
      | none =>
        obtain ⟨hx1', hx2'⟩ := HL0.out.nil0
        subst hx1' hx2'
        obtain rfl : k = 0 := by simpa using HK.out
        go_wp2_with fail
        haveI := Ext.nonempty wr
        refine wp_region_in (Ext wr) (by kernel_rfl) (by kernel_rfl) (Ext.start wr) ?_
        repeat (go_big_quiet_step (fail))
        refine wpQuiet_nil ?_
        rintro w5 ⟨⟨_, h5⟩, rfl⟩
        go_wp2_with fail
        haveI := Ext.nonempty w5
        refine wp_region_in (Ext w5) (by kernel_rfl) (by kernel_rfl) (Ext.start w5) ?_
        repeat (go_big_quiet_step (fail))
        refine wpQuiet_nil ?_
        rintro W ⟨⟨_, h6⟩, rfl⟩
        have HB6 : Hid (Below w0.heap.size w0 W) := (hbel.out.trans (Below.mono h5 hbel.out.size)).trans (Below.mono h6 (Nat.le_trans hbel.out.size (Below.size h5)))
        have HX6 : Hid (W.heap[w.heap.size]? = some (.cells #[.bool gx, .string sx] 23 (0, 0))) := blk_kept0 (blk_kept0 HX h5) h6
        clear h5 h6 hx0 hx1
        have HM6 := hidIt (OwnL.made W W.heap.size (Nat.le_refl _))
        have hsz6 := HB6.out.size
        go_wp2_with (at_builtin; refine wpList_append_lits rfl _ _ rfl W.heap.size _ [] rfl HM6.out _ [] rfl (.inl ⟨rfl, rfl⟩) (by simp) (by simp) ?_)
        intro v6 w6 ho6 hg6 hne6
        have hsz7 : W.heap.size < w6.heap.size := by have := hg6.size; simp at this; omega
        have hblk : ∀ i, i < W.heap.size → w6.heap[i]? = W.heap[i]? := fun i hi => by
          rw [hg6.block i (by simp; omega) (fun e => by simp [Value.ownBlock] at e; omega)]
          exact Below.heap_alloc _ _ _ hi
        have HX7 : Hid (w6.heap[w.heap.size]? = some (.cells #[.bool gx, .string sx] 23 (0, 0))) := by show _ = _; rw [hblk _ (lt_of_block HX6.out)]; exact HX6.out
        have HB7 : Hid (Below w0.heap.size w0 w6) := ⟨hg6.os.trans HB6.out.os, hg6.tape.trans HB6.out.tape, hg6.output.trans HB6.out.output, Nat.le_trans hsz6 (Nat.le_of_lt hsz7), fun i hi => (hblk i (Nat.lt_of_lt_of_le hi hsz6)).trans (HB6.out.block i hi)⟩
        have HO7 : Hid (OwnL (w6.drew.alloc (.cells #[.bool gx, .string sx] 23)) W.heap.size v6 []) := OwnL.below (xs := []) ho6 ((Below.refl _ _).drew.alloc (Nat.le_refl _) _)
        have HR7 : Hid (LitsAt (w6.drew.alloc (.cells #[.bool gx, .string sx] 23)) (.slice (some ⟨w6.heap.size, 0, none⟩) 1 1) [⟨gx, sx⟩]) := lits_one (heap_alloc_new w6.drew _)
        have hob : ∀ g, v6.ownBlock = some g → W.heap.size ≤ g ∧ g < w6.heap.size := OwnL.own_block (xs := []) ho6
        have HOB := hidIt hob
        have hx0 := cell_two0 HX7.out
        have hx1 := cell_two1 HX7.out
        clear ho6 hg6 hob hblk HX HX0 HM6 HL0 HL
        go_wp2_with fail
        go_region_law (first
          | (refine step_append_lits (by rfl) (.tmp 40) (.tmp 42) (by rfl) W.heap.size v6 [] (by rfl) HO7.out _ [⟨gx, sx⟩] (by rfl) HR7.out (by simp) (by simp; omega) ?_
             intro v8 w8 ho8 hg8)
          | (refine step_append_lits (by rfl) (.tmp 43) (.tmp 46) (by rfl) W.heap.size v8 [⟨gx, sx⟩] (by rfl) ho8 _ [] (by rfl) (.inl ⟨rfl, rfl⟩) (by simp) (by have := hg8.size; simp at this; omega) ?_
             have ho9b := OwnL.own_block (xs := [⟨gx, sx⟩]) ho8
             intro v9 w9 ho9 hg9))
        go_wp2_with fail
        go_ret
        refine ⟨_, rfl, by rw [HI6.out]; exact OwnL.lits (xs := [⟨gx, sx⟩]) ho9 |>.lits, ins_below HB0.out hlt0 HB7.out hsz7 hsz6 (fun g e => (HOB.out g e).1) hg8 (fun g e => (ho9b g e).1) hg9⟩
      | some ad =>
        obtain ⟨b1, o1, rfl⟩ := HL0.out.plain0
        have hlk' : xs.length ≤ k := by omega
        go_wp2_with fail
        haveI := Ext.nonempty wr
        refine wp_region_in (Ext wr) (by kernel_rfl) (by kernel_rfl) (Ext.start wr) ?_
        repeat (go_big_quiet_step (fail))
        refine wpQuiet_nil ?_
        rintro w5 ⟨⟨_, h5⟩, rfl⟩
        go_wp2_with fail
        haveI := Ext.nonempty w5
        refine wp_region_in (Ext w5) (by kernel_rfl) (by kernel_rfl) (Ext.start w5) ?_
        repeat (go_big_quiet_step (fail))
        refine wpQuiet_nil ?_
        rintro W ⟨⟨_, h6⟩, rfl⟩
        have HB6 : Hid (Below w0.heap.size w0 W) := (hbel.out.trans (Below.mono h5 hbel.out.size)).trans (Below.mono h6 (Nat.le_trans hbel.out.size (Below.size h5)))
        have HX6 : Hid (W.heap[w.heap.size]? = some (.cells #[.bool gx, .string sx] 23 (0, 0))) := blk_kept0 (blk_kept0 HX h5) h6
        have HL6 : Hid (LitsAt W (.slice (some ⟨b1, o1, none⟩) xs.length c) xs) := (HL.out.below h5).below h6
        clear h5 h6 hx0 hx1
        have HM6 := hidIt (OwnL.made W W.heap.size (Nat.le_refl _))
        have hgm : W.grownBy (W.alloc (.cells #[] 23)) none := only_alloc (only_refl _ _) _
        have HT6 := hidIt ((HL6.out.take k hk).grow hgm)
        have hsz6 := HB6.out.size
        have hlk : (xs.take k).length = k := by rw [List.length_take]; omega
        obtain ⟨hcl, hcm⟩ := HL6.out.caps
        have hkc : k ≤ c := by omega
        unfold maxLen at hcm
        clear hgm
        go_wp2_with (at_builtin; refine wpList_append_lits rfl _ _ rfl W.heap.size _ [] rfl HM6.out _ (xs.take k) rfl HT6.out (by simp; omega) (by simp) ?_)
        intro v6 w6 ho6 hg6 hne6
        have hsz7 : W.heap.size < w6.heap.size := by have := hg6.size; simp at this; omega
        have hblk : ∀ i, i < W.heap.size → w6.heap[i]? = W.heap[i]? := fun i hi => by
          rw [hg6.block i (by simp; omega) (fun e => by simp [Value.ownBlock] at e; omega)]
          exact Below.heap_alloc _ _ _ hi
        have HX7 : Hid (w6.heap[w.heap.size]? = some (.cells #[.bool gx, .string sx] 23 (0, 0))) := by show _ = _; rw [hblk _ (lt_of_block HX6.out)]; exact HX6.out
        have HB7 : Hid (Below w0.heap.size w0 w6) := ⟨hg6.os.trans HB6.out.os, hg6.tape.trans HB6.out.tape, hg6.output.trans HB6.out.output, Nat.le_trans hsz6 (Nat.le_of_lt hsz7), fun i hi => (hblk i (Nat.lt_of_lt_of_le hi hsz6)).trans (HB6.out.block i hi)⟩
        have hbW : b1 < W.heap.size := HL6.out.lt0
        have HL7 : Hid (LitsAt w6 (.slice (some ⟨b1, o1, none⟩) xs.length c) xs) := LitsAt.kept (HL6.out.below (Grows0 W _)) hg6 (fun g e b' off' cap' e2 => by
          simp [Value.ownBlock] at e
          injection e2 with e2
          injection e2 with e2
          injection e2 with e2
          omega)
        have HO7 : Hid (OwnL (w6.drew.alloc (.cells #[.bool gx, .string sx] 23)) W.heap.size v6 (xs.take k)) := ho6.below ((Below.refl _ _).drew.alloc (Nat.le_refl _) _)
        have HR7 : Hid (LitsAt (w6.drew.alloc (.cells #[.bool gx, .string sx] 23)) (.slice (some ⟨w6.heap.size, 0, none⟩) 1 1) [⟨gx, sx⟩]) := lits_one (heap_alloc_new w6.drew _)
        have HL7' : Hid (LitsAt (w6.drew.alloc (.cells #[.bool gx, .string sx] 23)) (.slice (if c = k then some ⟨b1, o1, none⟩ else some ⟨b1, o1 + k * 2, none⟩) 0 (c - k)) (xs.drop k)) := by
          have hd := (HL7.out.below ((Below.refl w6.heap.size w6).drew.alloc (Nat.le_refl _) (.cells #[.bool gx, .string sx] 23))).drop' k hk
          rw [Nat.sub_eq_zero_of_le hlk'] at hd
          exact hd
        have hob : ∀ g, v6.ownBlock = some g → W.heap.size ≤ g ∧ g < w6.heap.size := ho6.own_block
        have HOB := hidIt hob
        have hx0 := cell_two0 HX7.out
        have hx1 := cell_two1 HX7.out
        have hd7 : (xs.drop k).length = xs.length - k := by rw [List.length_drop]
        clear ho6 hg6 hob hblk HX HX0 HM6 HT6 HL0 HL
        go_wp2_with fail
        go_region_law (first
          | (refine step_append_lits (by rfl) (.tmp 40) (.tmp 42) (by rfl) W.heap.size v6 (xs.take k) (by rfl) HO7.out _ [⟨gx, sx⟩] (by rfl) HR7.out (by simp; omega) (by simp; omega) ?_
             intro v8 w8 ho8 hg8
             have HL8 : LitsAt w8 (.slice (if c = k then some ⟨b1, o1, none⟩ else some ⟨b1, o1 + k * 2, none⟩) 0 (c - k)) (xs.drop k) := HL7'.out.kept hg8 (fun g e b' off' cap' e2 => by have h1 := (HOB.out g e).1; have h2 := ite_block e2; omega))
          | (refine step_append_lits (by rfl) (.tmp 43) (.tmp 46) (by rfl) W.heap.size v8 (xs.take k ++ [⟨gx, sx⟩]) (by rfl) ho8 _ (xs.drop k) (by rfl) HL8 (by simp; omega) (by have := hg8.size; simp at this; omega) ?_
             have ho9b := ho8.own_block
             intro v9 w9 ho9 hg9))
        go_wp2_with fail
        all_goals
          go_ret
          refine ⟨_, rfl, by rw [HI6.out]; exact ho9.lits.lits, ins_below HB0.out hlt0 HB7.out hsz7 hsz6 (fun g e => (HOB.out g e).1) hg8 (fun g e => (ho9b g e).1) hg9⟩
end Go.Proofs.Ytbldlngblmegfaa
