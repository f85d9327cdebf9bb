/- The law LiteralNormal: the call answers true for every two lists of numbers. -/
import Derived.Test.YthlgkehflklflaaSame
import Derived.BigRegion
import Derived.StillTailTactics
import Derived.Test.YthlgkehflklflaaIn
namespace Go.Proofs.Ythlgkehflklflaa
open Go.RowKit Go.Sort

theorem flatL_set (xs : List Lt) (k : Nat) (x : Lt) (hk : k < xs.length) : ((flatL xs).set (k * 2) (.bool x.neg)).set (k * 2 + 1) (.string x.name) = flatL (xs.set k x) := by
  apply List.ext_getElem?
  intro j
  by_cases hj : j < xs.length * 2
  · rw [flatL_get (xs.set k x) j (by rw [List.length_set]; exact hj), List.getElem?_set, List.getElem?_set, List.length_set, flatL_len]
    have hget : ∀ i, (xs.set k x)[i]! = if i = k then (if k < xs.length then x else default) else xs[i]! := fun i => by
      rw [getElem!_def, List.getElem?_set]
      by_cases e : k = i
      · subst e
        simp [hk]
      · rw [if_neg e, if_neg (fun h => e h.symm), getElem!_def]
    by_cases e1 : k * 2 + 1 = j
    · subst e1
      rw [if_pos rfl, if_pos hj, show (k * 2 + 1) / 2 = k by omega, show (k * 2 + 1) % 2 = 1 by omega, hget, if_pos rfl, if_pos hk]
      rfl
    · rw [if_neg e1]
      by_cases e2 : k * 2 = j
      · subst e2
        rw [if_pos rfl, if_pos hj, show k * 2 / 2 = k by omega, show k * 2 % 2 = 0 by omega, hget, if_pos rfl, if_pos hk]
        rfl
      · rw [if_neg e2, flatL_get xs j hj, hget, if_neg (by omega)]
  · rw [List.getElem?_eq_none (by rw [List.length_set, List.length_set, flatL_len]; omega), List.getElem?_eq_none (by rw [flatL_len, List.length_set]; omega)]

theorem OwnL.stored {w : World} {B g cap : Nat} {xs : List Lt} (h : OwnL w B (.slice (some ⟨g, 0, none⟩) xs.length cap) xs) (k : Nat) (hk : k < xs.length) (x : Lt) :
    OwnL ((w.setCell ⟨g, k * 2, none⟩ (.bool x.neg)).setCell ⟨g, k * 2 + 1, none⟩ (.string x.name)) B (.slice (some ⟨g, 0, none⟩) xs.length cap) (xs.set k x) ∧
      w.grownBy ((w.setCell ⟨g, k * 2, none⟩ (.bool x.neg)).setCell ⟨g, k * 2 + 1, none⟩ (.string x.name)) (some g) := by
  obtain ⟨h1, g1⟩ := World.ownsRow.stored h (k * 2) (.bool x.neg)
  obtain ⟨h2, g2⟩ := World.ownsRow.stored h1 (k * 2 + 1) (.string x.name)
  rw [flatL_set xs k x hk] at h2
  refine ⟨?_, only_trans g1 g2⟩
  unfold OwnL
  rw [List.length_set]
  exact h2

theorem OwnL.free {w : World} {B g cap : Nat} {xs : List Lt} (h : OwnL w B (.slice (some ⟨g, 0, none⟩) xs.length cap) xs) (j : Nat) : w.frozen? ⟨g, j, none⟩ = false := by
  obtain ⟨_, h | ⟨g', cap', cur, h1, h2, h3, _⟩⟩ := h
  · cases h.1
  · injection h1 with e1 e2 e3
    injection e1 with e1
    injection e1 with e1
    subst e1
    exact free_any h3 j

theorem OwnL.cells {w : World} {B g cap : Nat} {xs : List Lt} (h : OwnL w B (.slice (some ⟨g, 0, none⟩) xs.length cap) xs) (k : Nat) (hk : k < xs.length) :
    w.cell? ⟨g, k * 2, none⟩ = some (.bool (xs[k]!).neg) ∧ w.cell? ⟨g, k * 2 + 1, none⟩ = some (.string (xs[k]!).name) := by
  obtain ⟨a, c, hv, hc⟩ := h.form
  obtain ⟨xb, ha, h1⟩ := hc k hk
  injection hv with e1 e2 e3
  rw [← e1] at ha
  injection ha with ha
  injection ha with ha
  subst ha
  exact h1

/-- A value that is not nil lies in a row. -/
theorem OwnL.laid {w : World} {B : Nat} {v : Value} {xs : List Lt} (h : OwnL w B v xs) (hn : v ≠ .slice none 0 0) : ∃ g c : Nat, v = .slice (some ⟨g, 0, none⟩) xs.length c ∧ B ≤ g ∧ g < w.heap.size := by
  rcases h.lits with ⟨h1, _⟩ | ⟨b, cap, h1, _, _, h4, h5, _⟩
  · exact absurd h1 hn
  · exact ⟨b, cap, h1, h4, h5⟩

theorem mod_nat (x : Int) (n : Nat) (hx : -9223372036854775808 ≤ x ∧ x ≤ 9223372036854775807) (hn : 1 ≤ n) (hn' : n ≤ 1000000) (w : World) :
    Calls Try.prog 35 #[.int .i64 x, .int .i64 (n : Int)] w fun e w' => ∃ m : Nat, e = .returned (.int .i64 (m : Int)) ∧ m < n ∧ w = w' :=
  (mod_any x n hx.1 hx.2 (by omega) (by omega) w).mono fun e w' ⟨he, hw⟩ => by
    have hb := modI_bd x n (by omega)
    refine ⟨(modI x n).toNat, ?_, by omega, hw⟩
    rw [he]
    exact ret_int (by omega)

theorem perm_swap {d xs : List Lt} (h : d.Perm xs) (k m : Nat) (hk : k < d.length) (hm : m < d.length) : ((d.set k d[m]!).set m d[k]!).Perm xs := by
  rw [getElem!_pos d m hm, getElem!_pos d k hk]
  exact (perm_set_set d k m hk hm).trans h

/-- The form of a list of ints that came in. -/
theorem IntsAt.form {w : World} {B : Nat} {l : Value} {zs : List Int} (h : IntsAt w B l zs) : ∃ (a : Option Addr) (c : Nat), l = .slice a zs.length c ∧ zs.length ≤ maxLen ∧
    (∀ i, i < zs.length → ∃ db off, a = .some ⟨db, off, none⟩ ∧ db < B ∧ w.cell? ⟨db, off + i, none⟩ = .some (.int .i64 (zs.getD i 0))) ∧ (∀ i, -9223372036854775808 ≤ zs.getD i 0 ∧ zs.getD i 0 ≤ 9223372036854775807) := by
  rcases h with ⟨rfl, rfl⟩ | ⟨x, cap, rfl, h1, h2, h3, h4⟩
  · exact ⟨none, 0, rfl, Nat.zero_le _, fun i hi => by simp at hi, fun i => by simp⟩
  · refine ⟨.some x, cap, rfl, Nat.le_trans h1 h2, fun i hi => ?_, h4⟩
    obtain ⟨db, off, e, hd, hc⟩ := h3 i hi
    exact ⟨db, off, by rw [e], hd, hc⟩

theorem OwnL.swap {w : World} {B g cap n : Nat} {d xs : List Lt} (h : OwnL w B (.slice (some ⟨g, 0, none⟩) n cap) d) (hn : d.length = n) (hp : d.Perm xs) (k m : Nat) (hk : k < n) (hm : m < n) (gx gy : Bool) (sx sy : ByteArray)
    (hx : (⟨gx, sx⟩ : Lt) = d[m]!) (hy : (⟨gy, sy⟩ : Lt) = d[k]!) :
    ∃ d' : List Lt, d'.length = n ∧ d'.Perm xs ∧ OwnL ((((w.setCell ⟨g, k * 2, none⟩ (.bool gx)).setCell ⟨g, k * 2 + 1, none⟩ (.string sx)).setCell ⟨g, m * 2, none⟩ (.bool gy)).setCell ⟨g, m * 2 + 1, none⟩ (.string sy)).drew B (.slice (some ⟨g, 0, none⟩) n cap) d' ∧
      w.grownBy ((((w.setCell ⟨g, k * 2, none⟩ (.bool gx)).setCell ⟨g, k * 2 + 1, none⟩ (.string sx)).setCell ⟨g, m * 2, none⟩ (.bool gy)).setCell ⟨g, m * 2 + 1, none⟩ (.string sy)).drew (some g) := by
  subst hn
  obtain ⟨h1, g1⟩ := h.stored k hk ⟨gx, sx⟩
  have e1 : (d.set k ⟨gx, sx⟩).length = d.length := List.length_set
  rw [← e1] at h1
  obtain ⟨h2, g2⟩ := OwnL.stored h1 m (by omega) ⟨gy, sy⟩
  rw [e1] at h2
  refine ⟨(d.set k ⟨gx, sx⟩).set m ⟨gy, sy⟩, by rw [List.length_set, List.length_set], ?_, h2.below (Below.refl _ _).drew, only_trans (only_trans g1 g2) (only_of_below (Below.refl _ _).drew _)⟩
  rw [hx, hy]
  exact perm_swap hp k m hk hm

theorem nrm_le (xs : List Lt) : (nrm xs).length ≤ xs.length := by
  have h := (compactUpTo_sub (srt xs).toArray _ (Nat.le_refl _)).length_le
  have h2 : (nrm xs).length ≤ ((srt xs).toArray.toList.take (srt xs).toArray.size).length := h
  rw [List.length_take] at h2
  simp at h2
  have h3 : (srt xs).length = xs.length := srt_len xs
  omega

/-- Normal at a list whose elements are those of another. -/
theorem normal_to (v : Value) (ys xs : List Lt) (hm : ∀ z, z ∈ ys ↔ z ∈ xs) (w : World) (h : LitsAt w v ys) (hn : ys.length ≤ 1000000) :
    Calls Try.prog 29 #[v] w fun e w' => ∃ (a : Option Addr) (c : Nat), e = .returned (.slice a (nrm xs).length c) ∧ LitsAt w' (.slice a (nrm xs).length c) (nrm xs) ∧ Below w.heap.size w w' :=
  (normal_form v ys w h hn).mono fun e w' ⟨a, c, he, ho, hb⟩ => by
    rw [nrm_ext hm] at he ho
    exact ⟨a, c, he, ho.lits, hb⟩

/-- What stays while the calls of loop 2 go on. -/
structure ND (w : World) (B : Nat) (ra : Option Addr) (rc : Nat) (xa : Option Addr) (xc : Nat) (xs : List Lt) (w' : World) : Prop where
  r : LitsAt w' (.slice ra (nrm xs).length rc) (nrm xs)
  x : OwnL w' B (.slice xa xs.length xc) xs
  b : Below w.heap.size w w'
theorem ND.go {w : World} {B : Nat} {ra : Option Addr} {rc : Nat} {xa : Option Addr} {xc : Nat} {xs : List Lt} {w1 w2 : World} (h : ND w B ra rc xa xc xs w1) (hb : Below w1.heap.size w1 w2) : ND w B ra rc xa xc xs w2 :=
  ⟨h.r.grow (only_of_below hb none), h.x.below hb, h.b.trans (hb.mono h.b.size)⟩
/-- The cells of the element number k, in every world of the class. -/
theorem ND.cells {w : World} {B : Nat} {rb ro : Nat} {rc : Nat} {xa : Option Addr} {xc : Nat} {xs : List Lt} {w1 : World} (h : ND w B (some ⟨rb, ro, none⟩) rc xa xc xs w1) (k : Nat) (hk : k < (nrm xs).length) :
    w1.cell? ⟨rb, ro + k * 2, none⟩ = some (.bool ((nrm xs)[k]!).neg) ∧ w1.cell? ⟨rb, ro + k * 2 + 1, none⟩ = some (.string ((nrm xs)[k]!).name) := by
  obtain ⟨a, c, hv, hc⟩ := h.r.form
  obtain ⟨b, o, ha, c0, c1⟩ := hc k hk
  injection hv with e1 e2 e3
  rw [← e1] at ha
  injection ha with ha
  injection ha with e4 e5
  subst e4 e5
  exact ⟨c0, c1⟩
theorem has_nd (w : World) (B : Nat) (ra : Option Addr) (rc : Nat) (xa : Option Addr) (xc : Nat) (xs : List Lt) (hn : xs.length ≤ 1000000) (gx : Bool) (sx : ByteArray) (hin : (⟨gx, sx⟩ : Lt) ∈ xs) (w1 : World) (h : ND w B ra rc xa xc xs w1) :
    Calls Try.prog 33 #[.slice xa xs.length xc, .agg #[.bool gx, .string sx]] w1 fun e w' => e = .returned (.bool true) ∧ ND w B ra rc xa xc xs w' :=
  (has_any _ xs gx sx w1 h.x.lits.lits hn).mono fun e w' ⟨he, hb⟩ => ⟨by rw [he, decide_eq_true hin], h.go hb⟩

theorem nrm_neg (xs : List Lt) (p : Nat) (hp : p + 1 < (nrm xs).length) : cmpI ((nrm xs)[p]!) ((nrm xs)[p + 1]!) = -1 := by
  have h1 := List.pairwise_iff_getElem.1 (nrm_pair xs) p (p + 1) (by omega) hp (by omega)
  have h2 : (nrm xs)[p] ≠ (nrm xs)[p + 1] := List.pairwise_iff_getElem.1 (nrm_facts xs).1 p (p + 1) (by omega) hp (by omega)
  rw [getElem!_pos (nrm xs) p (by omega), getElem!_pos (nrm xs) (p + 1) hp]
  simp only [ltOf, Bool.not_eq_true', decide_eq_false_iff_not] at h1
  have h3 := cmpI_swap (nrm xs)[p] (nrm xs)[p + 1]
  rcases cmpI_bd (nrm xs)[p] (nrm xs)[p + 1] with h | h | h
  · exact h
  · exact absurd (cmpI_zero h) h2
  · omega
theorem cmp_nd (w : World) (B : Nat) (ra : Option Addr) (rc : Nat) (xa : Option Addr) (xc : Nat) (xs : List Lt) (gy : Bool) (sy : ByteArray) (gx : Bool) (sx : ByteArray) (hneg : cmpI (⟨gy, sy⟩ : Lt) (⟨gx, sx⟩ : Lt) = -1) (w1 : World) (h : ND w B ra rc xa xc xs w1) :
    Calls Try.prog 23 #[.agg #[.bool gy, .string sy], .agg #[.bool gx, .string sx]] w1 fun e w' => e = .returned (.int .i64 (-1)) ∧ ND w B ra rc xa xc xs w' :=
  (compare_any ⟨gy, sy⟩ ⟨gx, sx⟩ w1).mono fun e w' ⟨he, os, hw⟩ => ⟨by rw [he, hneg], h.go (by rw [hw]; exact below_grow w1 os)⟩

set_option maxRecDepth 100000 in
set_option maxHeartbeats 4000000 in
theorem normal_walk (l l2 : Value) (zs zs2 : List Int) (w : World) (hl : IntsAt w w.heap.size l zs) (hl2 : IntsAt w w.heap.size l2 zs2) :
    Calls Try.prog 7 #[l, l2] w fun e w' => e = .returned (.bool true) ∧ Below w.heap.size w w' := by
  obtain ⟨i0, hi, hz0, hz1, hz2⟩ := info_parts infoL
  obtain ⟨a2, c2, rfl, hz2len, ho, hob⟩ := hl2.form
  have HORD := hidIt ho
  have HOB := hidIt hob
  unfold maxLen at hz2len
  have HL := hidIt hl
  clear hl hl2 ho hob
  go_enter Try.func7, Try.ntmps7
  go_wp2_with fail
  refine (new_any l zs w.heap.size _ HL.out (Nat.le_refl _)).mono ?_
  rintro e w1 ⟨zs', rfl, hs1, o, hw1⟩
  have HS1 := hidIt hs1
  have HB1 : Hid (Below w.heap.size w w1) := by rw [hw1]; exact (Below.refl _ _).alloc (Nat.le_refl _) o
  have hlt1 : Hid (w.heap.size < w1.heap.size) := hs1.lt
  clear hs1 hw1 HL
  go_wp2_with fail
  refine (slits_form 10 4 (by omega) (by omega) (by omega) w.heap.size w.heap.size zs' 0 w1 HS1.out).mono ?_
  rintro e w2 ⟨xa, xc, xs, q2, rfl, hown, hlen, hsh, hs2, hg2⟩
  have HO2 := hidIt hown
  have HSH := hidIt hsh
  have HS2 := hidIt hs2
  have HB2 := hidIt (below_only HB1.out hg2 (Nat.le_refl _) hlt1.out)
  have hlt2 : Hid (w1.heap.size ≤ w2.heap.size) := hg2.size
  clear hown hsh hs2 hg2 HS1 HB1
  have hmade := OwnL.made w2 w2.heap.size (Nat.le_refl _)
  have HLX := (HO2.out.alloc (.cells #[] 23)).lits.lits
  go_wp2_with (at_builtin; refine wpList_append_lits rfl _ _ rfl w2.heap.size _ [] rfl hmade _ xs rfl HLX (by simp; omega) (by simp) ?_)
  intro v' w3 ho3 hg3 hne
  obtain ⟨yb, yc, rfl, hyb, _⟩ := ho3.laid (fun e => absurd (hne e) (by intro e; cases e))
  have HX3 := hidIt ((HO2.out.alloc (.cells #[] 23)).kept' hg3 (fun g e x hx => by have e : w2.heap.size = g := Option.some.inj e; have := (HO2.out.own_block x hx).2; omega))
  have HS3 := hidIt ((HS2.out.alloc (.cells #[] 23)).own hg3 (Bo := w2.heap.size) (fun g e => by have e : w2.heap.size = g := Option.some.inj e; omega) HS2.out.lt)
  have HB3 := hidIt ((HB2.out.alloc (o := .cells #[] 23) (by have := HS2.out.lt; omega)).grown hg3 (by have := HS2.out.lt; simp; omega) (fun g e => by have e : w2.heap.size = g := Option.some.inj e; have := HS2.out.lt; omega))
  have HO3 := hidIt ho3
  have hyx : Hid (∀ x, (Value.slice xa xs.length xc).ownBlock = some x → x < yb) := fun x hx => Nat.lt_of_lt_of_le (HO2.out.own_block x hx).2 hyb
  have hblt : Hid (w.heap.size < w2.heap.size) := HS2.out.lt
  clear hmade HLX ho3 hg3 hne HO2 HS2 HB2
  go_wp2_with fail
  go_loopw [23] (fun i wr => ∃ (k : Nat) (d : List Lt), k ≤ xs.length ∧ i = .int .i64 k ∧ d.length = xs.length ∧ Hid (d.Perm xs) ∧ Hid (OwnL wr w2.heap.size (.slice (some ⟨yb, 0, none⟩) xs.length yc) d) ∧ Hid (OwnL wr w1.heap.size (.slice xa xs.length xc) xs) ∧ Hid (SrcAt wr w.heap.size w.heap.size zs' q2) ∧ Hid (Below w.heap.size w wr)) (fun i _ => xs.length - (intOf i).toNat)
  case atStart => exact ⟨0, xs, Nat.zero_le _, rfl, rfl, List.Perm.refl _, HO3.out, HX3.out, HS3.out, HB3.out⟩
  case round =>
    clear HO3 HX3 HS3 HB3
    obtain ⟨k, d, hk, rfl, hdl, hperm, hown, hxo, hsrc, hbel⟩ := hrel
    by_cases hlt : k < xs.length
    · by_cases h2 : k < zs2.length
      · obtain ⟨db, off, rfl, hdb, hc⟩ := HORD.out k h2
        have hc' : Hid (wr.cell? ⟨db, off + k, none⟩ = some (.int .i64 (zs2.getD k 0))) := (hbel.out.cell (p := ⟨db, off + k, none⟩) hdb).trans hc
        have hc0 := hc'.out
        have hzb := HOB.out k
        clear hc hc'
        generalize zs2.getD k 0 = z at hc0 hzb
        go_wp2_with fail
        refine (mod_nat z xs.length hzb (by omega) (by omega) _).mono ?_
        rintro e w' ⟨m, rfl, hm, rfl⟩
        have hown' : OwnL wr w2.heap.size (.slice (some ⟨yb, 0, none⟩) d.length yc) d := by rw [hdl]; exact hown.out
        have hm' : m < d.length := by omega
        have hk' : k < d.length := by omega
        have hown2 := hidIt hown.out
        obtain ⟨p0, p1⟩ := hown'.cells k hk'
        obtain ⟨q0, q1⟩ := hown'.cells m hm'
        have F : ∀ j, wr.frozen? ⟨yb, j, none⟩ = false := hown'.free
        obtain ⟨xk, hxk⟩ : ∃ x, x = d[k]! := ⟨_, rfl⟩
        obtain ⟨xm, hxm⟩ : ∃ x, x = d[m]! := ⟨_, rfl⟩
        rw [← hxk] at p0 p1
        rw [← hxm] at q0 q1
        have HXK := hidIt hxk
        have HXM := hidIt hxm
        clear hown' hown hxk hxm
        obtain ⟨gk, sk⟩ := xk
        obtain ⟨gm, sm⟩ := xm
        simp only at p0 p1 q0 q1
        clear hm' hk'
        by_cases hkm : m = k
        · subst hkm
          go_wp2_with fail
          go_big_region
          go_wp2
          go_roundw
          case rel =>
            obtain ⟨d', e1, e2, e3, e4⟩ := hown2.out.swap hdl hperm.out m m hlt hm _ _ _ _ HXM.out HXM.out
            exact ⟨m + 1, d', by omega, by go_num, e1, e2, e3, hxo.out.kept' e4 (fun g e x hx => by have e := Option.some.inj e; have := hyx.out x hx; omega), hsrc.out.own e4 (Bo := w2.heap.size) (fun g e => by have e := Option.some.inj e; omega) hblt.out, hbel.out.grown e4 (Nat.le_of_lt hsrc.out.lt) (fun g e => by have e := Option.some.inj e; have := hblt.out; omega)⟩
          case measure => simp [intOf]; omega
        · go_wp2_with fail
          go_big_region
          go_wp2
          go_roundw
          case rel =>
            obtain ⟨d', e1, e2, e3, e4⟩ := hown2.out.swap hdl hperm.out k m hlt hm _ _ _ _ HXM.out HXK.out
            exact ⟨k + 1, d', by omega, by go_num, e1, e2, e3, hxo.out.kept' e4 (fun g e x hx => by have e := Option.some.inj e; have := hyx.out x hx; omega), hsrc.out.own e4 (Bo := w2.heap.size) (fun g e => by have e := Option.some.inj e; omega) hblt.out, hbel.out.grown e4 (Nat.le_of_lt hsrc.out.lt) (fun g e => by have e := Option.some.inj e; have := hblt.out; omega)⟩
          case measure => simp [intOf]; omega
      · go_wp2
        go_roundw
        case rel => exact ⟨k + 1, d, by omega, by go_num, hdl, hperm, hown, hxo, hsrc, hbel⟩
        case measure => simp [intOf]; omega
    · have hnl : (nrm xs).length ≤ 1000000 := Nat.le_trans (nrm_le xs) (by omega)
      by_cases hn0 : 0 < xs.length
      · go_wp2_with fail
        refine (sn_nat xs.length (by omega) (by omega) _ _ zs' q2 _ hsrc.out).mono ?_
        rintro e w6 ⟨m, q6, rfl, hm, hs6, hg6⟩
        have HP6 := hidIt (hown.out.kept hg6 (fun g e => by injection e with e; have := hblt.out; omega))
        have HX6 := hidIt (hxo.out.kept hg6 (fun g e => by injection e with e; have := hlt1.out; omega))
        have HB6 := hidIt (below_only hbel.out hg6 (Nat.le_refl _) hsrc.out.lt)
        clear hs6 hg6 hown hxo hbel hsrc
        obtain ⟨c0, c1⟩ : w6.cell? ⟨yb, m * 2, none⟩ = some (.bool (d[m]!).neg) ∧ w6.cell? ⟨yb, m * 2 + 1, none⟩ = some (.string (d[m]!).name) := OwnL.cells (show OwnL w6 w2.heap.size (.slice (some ⟨yb, 0, none⟩) d.length yc) d by rw [hdl]; exact HP6.out) m (by omega)
        have hin : d[m]! ∈ d := by rw [getElem!_pos d m (by omega)]; exact List.getElem_mem _
        generalize d[m]! = x at c0 c1 hin
        obtain ⟨gx, sx⟩ := x
        simp only at c0 c1
        have hmem : Hid (∀ z, z ∈ d ++ [(⟨gx, sx⟩ : Lt)] ↔ z ∈ xs) := fun z => by
          rw [List.mem_append, List.mem_singleton, hperm.out.mem_iff]
          exact ⟨fun h => h.elim id (fun h => h ▸ hperm.out.mem_iff.1 hin), .inl⟩
        clear hin
        have hyl := (HP6.out.own_block yb rfl).2
        have hown7 := World.ownsRow.alloc HP6.out (.cells #[.bool gx, .string sx] 23)
        go_wp2_with (at_builtin; refine wpList_append_own _ rfl _ _ 29 rfl w2.heap.size 23 i0 _ 2 24 Try.underlying29 hi hz0 hz1 hz2 rfl (by decide) _ _ _ rfl hown7 ⟨w6.heap.size, 0, none⟩ 1 1 [.bool gx, .string sx] rfl rfl ?c1 ?c2 ?c3 ?c4 ?c5 ?_)
        case c1 => exact news_two w6 _ _ _
        case c2 =>
          intro u hu
          simp only [List.mem_cons, List.not_mem_nil, or_false] at hu
          rcases hu with rfl | rfl <;> rfl
        case c3 => unfold maxLen; omega
        case c4 => omega
        case c5 => simp; omega
        intro v' w7 hown4 hg7 _
        have hb2 := hblt.out
        have HO7 : Hid (OwnL w7 w2.heap.size v' (d ++ [(⟨gx, sx⟩ : Lt)])) := by
          show World.ownsRow _ _ _ _ _ _ _
          rw [flatL_append, List.length_append, flatL_one_lit, hdl]
          exact hown4
        have HX7 := hidIt (OwnL.kept' (OwnL.alloc HX6.out (.cells #[.bool gx, .string sx] 23)) hg7 (fun g e x hx => by have e : yb = g := Option.some.inj e; have := hyx.out x hx; omega))
        have HB7 := hidIt ((HB6.out.alloc (o := .cells #[.bool gx, .string sx] 23) (by omega)).grown hg7 (by simp; omega) (fun g e => by have e : yb = g := Option.some.inj e; omega))
        clear hown4 hg7 hown7 HP6 HX6 HB6
        go_wp2_with fail
        refine (normal_to (.slice xa xs.length xc) xs xs (fun _ => Iff.rfl) _ HX7.out.lits.lits (by omega)).mono ?_
        rintro e w8 ⟨ra, rc, rfl, hr8, hb8⟩
        have HR8 := hidIt hr8
        have HO8 := hidIt (HO7.out.below hb8)
        have HX8 := hidIt (HX7.out.below hb8)
        have HB8 := hidIt (HB7.out.trans (hb8.mono HB7.out.size))
        clear hb8 hr8
        go_wp2_with fail
        refine (normal_to _ (d ++ [(⟨gx, sx⟩ : Lt)]) xs hmem.out _ HO8.out.lits.lits (by rw [List.length_append]; simp; omega)).mono ?_
        rintro e w9 ⟨sa, sc, rfl, hr9, hb9⟩
        have HQ9 := hidIt hr9
        have HR9 := hidIt (HR8.out.grow (only_of_below hb9 none))
        have HX9 := hidIt (HX8.out.below hb9)
        have HB9 := hidIt (HB8.out.trans (hb9.mono HB8.out.size))
        clear hb9 hr9
        go_wp2_with fail
        refine (same_true _ _ (nrm xs) _ HR9.out HQ9.out hnl).mono ?_
        rintro e w10 ⟨rfl, hb10⟩
        have HR10 := hidIt (HR9.out.grow (only_of_below hb10 none))
        have HX10 := hidIt (HX9.out.below hb10)
        have HB10 := hidIt (HB9.out.trans (hb10.mono HB9.out.size))
        clear hb10 HR9 HQ9
        go_wp2_with fail
        refine (normal_to _ (nrm xs) xs (nrm_facts xs).2 _ HR10.out hnl).mono ?_
        rintro e w11 ⟨ta, tc, rfl, hr11, hb11⟩
        have HQ11 := hidIt hr11
        have HR11 := hidIt (HR10.out.grow (only_of_below hb11 none))
        have HX11 := hidIt (HX10.out.below hb11)
        have HB11 := hidIt (HB10.out.trans (hb11.mono HB10.out.size))
        clear hb11 hr11
        go_wp2_with fail
        refine (same_true _ _ (nrm xs) _ HQ11.out HR11.out hnl).mono ?_
        rintro e w12 ⟨rfl, hb12⟩
        have HR12 := hidIt (HR11.out.grow (only_of_below hb12 none))
        have HX12 := hidIt (HX11.out.below hb12)
        have HB12 := hidIt (HB11.out.trans (hb12.mono HB11.out.size))
        clear hb12 HQ11
        go_wp2_with fail
        go_loopw [82] (fun i wr => ∃ k : Nat, k ≤ (nrm xs).length ∧ i = .int .i64 k ∧ Hid (LitsAt wr (.slice ra (nrm xs).length rc) (nrm xs)) ∧ Hid (OwnL wr w1.heap.size (.slice xa xs.length xc) xs) ∧ Hid (Below w.heap.size w wr)) (fun i _ => (nrm xs).length - (intOf i).toNat)
        case atStart => exact ⟨0, Nat.zero_le _, rfl, HR12.out, HX12.out, HB12.out⟩
        case round =>
          clear HR12 HX12 HB12
          obtain ⟨k, hk, rfl, hr, hx, hb⟩ := hrel
          by_cases hlt : k < (nrm xs).length
          · obtain ⟨aa, cc, hv, hcells⟩ := hr.out.form
            obtain ⟨ab, ao, hxa, c0, c1⟩ := hcells k hlt
            injection hv with hv1 hv2 hv3
            rw [← hv1] at hxa
            clear hv1 hv3
            subst hxa
            have hin : ((nrm xs)[k]!) ∈ xs := ((nrm_facts xs).2 _).1 (by rw [getElem!_pos (nrm xs) k hlt]; exact List.getElem_mem _)
            obtain ⟨x, hx0⟩ : ∃ x, x = (nrm xs)[k]! := ⟨_, rfl⟩
            rw [← hx0] at c0 c1 hin
            have HX0 := hidIt hx0
            clear hx0
            obtain ⟨gx, sx⟩ := x
            simp only at c0 c1
            have HIN := hidIt hin
            clear hin
            by_cases hk0 : k = 0
            · subst hk0
              clear hcells
              go_wp2_with fail
              have hND : ND w w1.heap.size (some ⟨ab, ao, none⟩) rc xa xc xs wr.drew := (⟨hr.out, hx.out, hb.out⟩ : ND w w1.heap.size (some ⟨ab, ao, none⟩) rc xa xc xs wr).go (Below.refl _ _).drew
              have d0 : ∀ y : In (ND w w1.heap.size (some ⟨ab, ao, none⟩) rc xa xc xs), y.w.cell? ⟨ab, ao, none⟩ = some (.bool gx) := fun y => (y.h.cells 0 hlt).1.trans (by rw [← HX0.out])
              have d1 : ∀ y : In (ND w w1.heap.size (some ⟨ab, ao, none⟩) rc xa xc xs), y.w.cell? ⟨ab, ao + 1, none⟩ = some (.string sx) := fun y => (show y.w.cell? ⟨ab, ao + 0 * 2 + 1, none⟩ = _ from (y.h.cells 0 hlt).2.trans (by rw [← HX0.out]))
              clear c0 c1 hr hx hb
              haveI : Nonempty (In (ND w w1.heap.size (some ⟨ab, ao, none⟩) rc xa xc xs)) := ⟨⟨_, hND⟩⟩
              refine wp_region_in (ND w w1.heap.size (some ⟨ab, ao, none⟩) rc xa xc xs) (by kernel_rfl) (by kernel_rfl) hND ?_
              repeat (go_big_quiet_step ((go_at_call 33; refine Calls.in_of (has_nd w w1.heap.size (some ⟨ab, ao, none⟩) rc xa xc xs (by omega) gx sx HIN.out _ (In.h _)))))
              refine wpQuiet_nil ?_
              rintro _ ⟨⟨w13, h13⟩, rfl⟩
              have HR13 := hidIt h13.r
              have HX13 := hidIt h13.x
              have HB13 := hidIt h13.b
              clear d0 d1 hND h13
              go_wp2_with fail
              go_roundw
              case rel => exact ⟨0 + 1, by omega, by go_num, HR13, HX13, HB13⟩
              case measure => simp [intOf]; omega
            · obtain ⟨p, rfl⟩ : ∃ p, k = p + 1 := ⟨k - 1, by omega⟩
              clear hcells
              have hND : ND w w1.heap.size (some ⟨ab, ao, none⟩) rc xa xc xs wr.drew := (⟨hr.out, hx.out, hb.out⟩ : ND w w1.heap.size (some ⟨ab, ao, none⟩) rc xa xc xs wr).go (Below.refl _ _).drew
              have hneg : Hid (cmpI ((nrm xs)[p]!) (⟨gx, sx⟩ : Lt) = -1) := by
                show _ = _
                rw [HX0.out]
                exact nrm_neg xs p hlt
              obtain ⟨y, hy0⟩ : ∃ y, y = (nrm xs)[p]! := ⟨_, rfl⟩
              rw [← hy0] at hneg
              have HY0 := hidIt hy0
              clear hy0
              obtain ⟨gy, sy⟩ := y
              have d0 : ∀ z : In (ND w w1.heap.size (some ⟨ab, ao, none⟩) rc xa xc xs), z.w.cell? ⟨ab, ao + (p + 1) * 2, none⟩ = some (.bool gx) := fun z => by rw [(z.h.cells (p + 1) hlt).1, ← HX0.out]
              have d1 : ∀ z : In (ND w w1.heap.size (some ⟨ab, ao, none⟩) rc xa xc xs), z.w.cell? ⟨ab, ao + (p + 1) * 2 + 1, none⟩ = some (.string sx) := fun z => by rw [(z.h.cells (p + 1) hlt).2, ← HX0.out]
              have d2 : ∀ z : In (ND w w1.heap.size (some ⟨ab, ao, none⟩) rc xa xc xs), z.w.cell? ⟨ab, ao + p * 2, none⟩ = some (.bool gy) := fun z => by rw [(z.h.cells p (by omega)).1, ← HY0.out]
              have d3 : ∀ z : In (ND w w1.heap.size (some ⟨ab, ao, none⟩) rc xa xc xs), z.w.cell? ⟨ab, ao + p * 2 + 1, none⟩ = some (.string sy) := fun z => by rw [(z.h.cells p (by omega)).2, ← HY0.out]
              clear c0 c1 hr hx hb
              have hk1 : 0 < p + 1 := by omega
              have hlt' : p + 1 < (nrm xs).length := hlt
              go_wp2_with fail
              haveI : Nonempty (In (ND w w1.heap.size (some ⟨ab, ao, none⟩) rc xa xc xs)) := ⟨⟨_, hND⟩⟩
              refine wp_region_in (ND w w1.heap.size (some ⟨ab, ao, none⟩) rc xa xc xs) (by kernel_rfl) (by kernel_rfl) hND ?_
              repeat (go_big_quiet_step (first
                | (go_at_call 33; refine Calls.in_of (has_nd w w1.heap.size (some ⟨ab, ao, none⟩) rc xa xc xs (by omega) gx sx HIN.out _ (In.h _)))
                | (go_at_call 23; refine Calls.in_of (cmp_nd w w1.heap.size (some ⟨ab, ao, none⟩) rc xa xc xs gy sy gx sx hneg.out _ (In.h _)))))
              refine wpQuiet_nil ?_
              rintro _ ⟨⟨w13, h13⟩, rfl⟩
              have HR13 := hidIt h13.r
              have HX13 := hidIt h13.x
              have HB13 := hidIt h13.b
              clear d0 d1 d2 d3 hND h13
              go_wp2_with fail
              go_roundw
              case rel => exact ⟨p + 1 + 1, by omega, by go_num, HR13, HX13, HB13⟩
              case measure => simp [intOf]; omega
          · go_wp2_with fail
            go_loopw [112] (fun i wr => ∃ k : Nat, k ≤ xs.length ∧ i = .int .i64 k ∧ Hid (LitsAt wr (.slice ra (nrm xs).length rc) (nrm xs)) ∧ Hid (OwnL wr w1.heap.size (.slice xa xs.length xc) xs) ∧ Hid (Below w.heap.size w wr)) (fun i _ => xs.length - (intOf i).toNat)
            case atStart => exact ⟨0, Nat.zero_le _, rfl, hr.out, hx.out, hb.out⟩
            case round =>
              clear hr hx hb
              obtain ⟨j, hj, rfl, hr, hx, hb⟩ := hrel
              by_cases hlt : j < xs.length
              · obtain ⟨a', c', hv, hcells⟩ := hx.out.form
                obtain ⟨xb, hxa, c0, c1⟩ := hcells j hlt
                injection hv with hv1 hv2 hv3
                rw [← hv1] at hxa
                clear hcells hv1 hv3
                subst hxa
                have hin : (xs[j]!) ∈ nrm xs := ((nrm_facts xs).2 _).2 (by rw [getElem!_pos xs j hlt]; exact List.getElem_mem _)
                generalize xs[j]! = x at c0 c1 hin
                obtain ⟨gx, sx⟩ := x
                simp only at c0 c1
                go_wp2_with fail
                refine (has_any _ (nrm xs) gx sx _ hr.out hnl).mono ?_
                rintro e w13 ⟨rfl, hb13⟩
                rw [decide_eq_true hin]
                have HR13 := hidIt (hr.out.grow (only_of_below hb13 none))
                have HX13 := hidIt (hx.out.below hb13)
                have HB13 := hidIt (hb.out.trans (hb13.mono hb.out.size))
                clear hb13 hr hx hb
                go_wp2_with fail
                go_roundw
                case rel => exact ⟨j + 1, by omega, by go_num, HR13, HX13, HB13⟩
                case measure => simp [intOf]; omega
              · go_wp2_with fail
                refine (awake_any _).mono ?_
                rintro e w13 ⟨rfl, hb13⟩
                have HB13 := hidIt (hb.out.trans (hb13.mono hb.out.size))
                clear hb13
                go_wp2_with fail
                go_ret
                exact ⟨rfl, HB13.out⟩
      · have hmem : Hid (∀ z, z ∈ d ↔ z ∈ xs) := fun z => hperm.out.mem_iff
        go_wp2_with fail
        refine (normal_to (.slice xa xs.length xc) xs xs (fun _ => Iff.rfl) _ hxo.out.lits.lits (by omega)).mono ?_
        rintro e w8 ⟨ra, rc, rfl, hr8, hb8⟩
        have HR8 := hidIt hr8
        have HO8 := hidIt (hown.out.below hb8)
        have HX8 := hidIt (hxo.out.below hb8)
        have HB8 := hidIt (hbel.out.trans (hb8.mono hbel.out.size))
        clear hb8 hr8
        go_wp2_with fail
        refine (normal_to _ d xs hmem.out _ HO8.out.lits.lits (by omega)).mono ?_
        rintro e w9 ⟨sa, sc, rfl, hr9, hb9⟩
        have HQ9 := hidIt hr9
        have HR9 := hidIt (HR8.out.grow (only_of_below hb9 none))
        have HX9 := hidIt (HX8.out.below hb9)
        have HB9 := hidIt (HB8.out.trans (hb9.mono HB8.out.size))
        clear hb9 hr9
        go_wp2_with fail
        refine (same_true _ _ (nrm xs) _ HR9.out HQ9.out hnl).mono ?_
        rintro e w10 ⟨rfl, hb10⟩
        have HR10 := hidIt (HR9.out.grow (only_of_below hb10 none))
        have HX10 := hidIt (HX9.out.below hb10)
        have HB10 := hidIt (HB9.out.trans (hb10.mono HB9.out.size))
        clear hb10 HR9 HQ9
        go_wp2_with fail
        refine (normal_to _ (nrm xs) xs (nrm_facts xs).2 _ HR10.out hnl).mono ?_
        rintro e w11 ⟨ta, tc, rfl, hr11, hb11⟩
        have HQ11 := hidIt hr11
        have HR11 := hidIt (HR10.out.grow (only_of_below hb11 none))
        have HX11 := hidIt (HX10.out.below hb11)
        have HB11 := hidIt (HB10.out.trans (hb11.mono HB10.out.size))
        clear hb11 hr11
        go_wp2_with fail
        refine (same_true _ _ (nrm xs) _ HQ11.out HR11.out hnl).mono ?_
        rintro e w12 ⟨rfl, hb12⟩
        have HR12 := hidIt (HR11.out.grow (only_of_below hb12 none))
        have HX12 := hidIt (HX11.out.below hb12)
        have HB12 := hidIt (HB11.out.trans (hb12.mono HB11.out.size))
        clear hb12 HQ11
        go_wp2_with fail
        go_loopw [82] (fun i wr => ∃ k : Nat, k ≤ (nrm xs).length ∧ i = .int .i64 k ∧ Hid (LitsAt wr (.slice ra (nrm xs).length rc) (nrm xs)) ∧ Hid (OwnL wr w1.heap.size (.slice xa xs.length xc) xs) ∧ Hid (Below w.heap.size w wr)) (fun i _ => (nrm xs).length - (intOf i).toNat)
        case atStart => exact ⟨0, Nat.zero_le _, rfl, HR12.out, HX12.out, HB12.out⟩
        case round =>
          clear HR12 HX12 HB12
          obtain ⟨k, hk, rfl, hr, hx, hb⟩ := hrel
          by_cases hlt : k < (nrm xs).length
          · exact absurd hlt (by have := nrm_le xs; omega)
          · go_wp2_with fail
            go_loopw [112] (fun i wr => ∃ k : Nat, k ≤ xs.length ∧ i = .int .i64 k ∧ Hid (LitsAt wr (.slice ra (nrm xs).length rc) (nrm xs)) ∧ Hid (OwnL wr w1.heap.size (.slice xa xs.length xc) xs) ∧ Hid (Below w.heap.size w wr)) (fun i _ => xs.length - (intOf i).toNat)
            case atStart => exact ⟨0, Nat.zero_le _, rfl, hr.out, hx.out, hb.out⟩
            case round =>
              clear hr hx hb
              obtain ⟨j, hj, rfl, hr, hx, hb⟩ := hrel
              by_cases hlt : j < xs.length
              · obtain ⟨a', c', hv, hcells⟩ := hx.out.form
                obtain ⟨xb, hxa, c0, c1⟩ := hcells j hlt
                injection hv with hv1 hv2 hv3
                rw [← hv1] at hxa
                clear hcells hv1 hv3
                subst hxa
                have hin : (xs[j]!) ∈ nrm xs := ((nrm_facts xs).2 _).2 (by rw [getElem!_pos xs j hlt]; exact List.getElem_mem _)
                generalize xs[j]! = x at c0 c1 hin
                obtain ⟨gx, sx⟩ := x
                simp only at c0 c1
                go_wp2_with fail
                refine (has_any _ (nrm xs) gx sx _ hr.out hnl).mono ?_
                rintro e w13 ⟨rfl, hb13⟩
                rw [decide_eq_true hin]
                have HR13 := hidIt (hr.out.grow (only_of_below hb13 none))
                have HX13 := hidIt (hx.out.below hb13)
                have HB13 := hidIt (hb.out.trans (hb13.mono hb.out.size))
                clear hb13 hr hx hb
                go_wp2_with fail
                go_roundw
                case rel => exact ⟨j + 1, by omega, by go_num, HR13, HX13, HB13⟩
                case measure => simp [intOf]; omega
              · go_wp2_with fail
                refine (awake_any _).mono ?_
                rintro e w13 ⟨rfl, hb13⟩
                have HB13 := hidIt (hb.out.trans (hb13.mono hb.out.size))
                clear hb13
                go_wp2_with fail
                go_ret
                exact ⟨rfl, HB13.out⟩
end Go.Proofs.Ythlgkehflklflaa
