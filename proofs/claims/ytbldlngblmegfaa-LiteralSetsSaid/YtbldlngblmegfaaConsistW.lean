/- The law LiteralConsistent: the call answers true for every list of numbers. -/
import Derived.Test.YtbldlngblmegfaaCount
import Derived.Test.YtbldlngblmegfaaSLits
import Derived.Test.YtbldlngblmegfaaBackW
namespace Go.Proofs.Ytbldlngblmegfaa
open Go.RowKit Go.Sort

theorem short_of {xs : List Lt} (h : Short1 xs) : Short xs := fun x hx => Nat.le_trans (h x hx) (by decide)

theorem OwnL.kept' {w w' : World} {B : Nat} {v : Value} {xs : List Lt} {row : Option Nat} (h : OwnL w B v xs) (hg : w.grownBy w' row) (hr : ∀ g, row = some g → ∀ x, v.ownBlock = some x → x ≠ g) : OwnL w' B v xs := by
  refine World.ownsRow.kept h hg ?_
  cases hv : v.ownBlock with
  | none => exact .inl rfl
  | some g => exact .inr (fun e => hr g e.symm g hv rfl)

theorem OwnL.below {w w' : World} {B : Nat} {v : Value} {xs : List Lt} (h : OwnL w B v xs) (hb : Below w.heap.size w w') : OwnL w' B v xs := h.kept' (only_of_below hb none) (fun g e => by cases e)

theorem OwnL.alloc {w : World} {B : Nat} {v : Value} {xs : List Lt} (h : OwnL w B v xs) (o : Obj) : OwnL (w.alloc o) B v xs := h.below ((Below.refl _ _).alloc (Nat.le_refl _) o)

/-- The value's form: nil if there is no element or a row of its own. -/
theorem OwnL.form {w : World} {B : Nat} {v : Value} {xs : List Lt} (h : OwnL w B v xs) : ∃ (a : Option Addr) (c : Nat), v = .slice a xs.length c ∧
    (∀ i, i < xs.length → ∃ xb, a = some ⟨xb, 0, none⟩ ∧ w.cell? ⟨xb, i * 2, none⟩ = some (.bool (xs[i]!).neg) ∧ w.cell? ⟨xb, i * 2 + 1, none⟩ = some (.string (xs[i]!).name)) := by
  rcases h.lits with ⟨rfl, rfl⟩ | ⟨b, cap, rfl, h2, h3, h4, h5, h6⟩
  · exact ⟨none, 0, rfl, fun i hi => by simp at hi⟩
  · refine ⟨_, cap, rfl, fun i hi => ⟨b, rfl, ?_⟩⟩
    have := HoldsK.at0 h6 (show i < xs.toArray.size by simpa using hi)
    simp only [List.getElem!_toArray, Nat.zero_add] at this
    exact ⟨this.1.1, this.2.1⟩

theorem OwnLits.form {w : World} {B : Nat} {v : Value} {xs : List Lt} (h : OwnLits w B v xs) : ∃ (a : Option Addr) (c : Nat), v = .slice a xs.length c := by
  rcases h with ⟨rfl, rfl⟩ | ⟨b, cap, rfl, _⟩
  · exact ⟨none, 0, rfl⟩
  · exact ⟨_, cap, rfl⟩

theorem normal_form (v : Value) (xs : List Lt) (w : World) (h : LitsAt w v xs) (hn : xs.length ≤ 1000000) :
    Calls Try.prog 29 #[v] w fun e w' => ∃ (a : Option Addr) (c : Nat), e = .returned (.slice a (nrm xs).length c) ∧ OwnLits w' w.heap.size (.slice a (nrm xs).length c) (nrm xs) ∧ Below w.heap.size w w' :=
  (normal_any v xs w h hn).mono fun e w' ⟨v', he, ho, hb⟩ => by
    obtain ⟨a, c, rfl⟩ := ho.form
    exact ⟨a, c, he, ho, hb⟩

theorem slits_form (most n : Nat) (hm : most ≤ 1000) (hn : 1 ≤ n) (hn' : n ≤ 26) (B b : Nat) (zs : List Int) (k : Nat) (w : World) (h : SrcAt w B b zs k) :
    Calls Try.prog 25 #[.pointer (some ⟨b, 0, none⟩), .int .i64 (most : Int), .int .i64 (n : Int)] w fun e w' => ∃ (a : Option Addr) (c : Nat) (xs : List Lt) (q : Nat), e = .returned (.slice a xs.length c) ∧ OwnL w' w.heap.size (.slice a xs.length c) xs ∧ xs.length ≤ most ∧ Short1 xs ∧ SrcAt w' B b zs q ∧ w.grownBy w' (some b) :=
  (slits_any most n hm hn hn' B b zs k w h).mono fun e w' ⟨v, xs, q, he, ho, r⟩ => by
    obtain ⟨a, c, rfl, _⟩ := ho.form
    exact ⟨a, c, xs, q, he, ho, r⟩

theorem news_two (w : World) (u v : Value) (t : TypeId) : ∀ j x, [u, v][j]? = some x → (w.alloc (.cells #[u, v] t)).cell? ((⟨w.heap.size, 0, none⟩ : Addr).add j) = some x := by
  intro j x hj
  have hnew := heap_alloc_new w (.cells #[u, v] t)
  match j, hj with
  | 0, hj => simp only [List.getElem?_cons_zero, Option.some.injEq] at hj; rw [← hj]; simp only [Addr.add]; exact cell_two0 hnew
  | 1, hj => simp only [List.getElem?_cons_succ, List.getElem?_cons_zero, Option.some.injEq] at hj; rw [← hj]; simp only [Addr.add]; exact cell_two1 hnew
  | j + 2, hj => simp at hj

theorem part_snoc {xs ps : List Lt} {k : Nat} (h : ∀ x ∈ ps, x ∈ xs) (hk : k < xs.length) : ∀ x ∈ ps ++ [xs[k]!], x ∈ xs := fun x hx => by
  rcases List.mem_append.1 hx with h1 | h1
  · exact h x h1
  · rw [List.mem_singleton.1 h1, getElem!_pos xs k hk]; exact List.getElem_mem hk

set_option maxRecDepth 100000 in
set_option maxHeartbeats 4000000 in
theorem consist_walk (l : Value) (zs : List Int) (w : World) (hl : IntsAt w w.heap.size l zs) :
    Calls Try.prog 8 #[l] w fun e w' => e = .returned (.bool true) ∧ Below w.heap.size w w' := by
  obtain ⟨i0, hi, hz0, hz1, hz2⟩ := info_parts infoL
  have HL := hidIt hl
  clear hl
  go_enter Try.func8, Try.ntmps8
  go_wp2_with fail
  refine (new_any l zs w.heap.size _ HL.out (Nat.le_refl _)).mono ?_
  rintro e w1 ⟨zs', rfl, hs1, o, hw1⟩
  have HS1 := hidIt hs1
  have HB1 : Hid (Below w.heap.size w w1) := by rw [hw1]; exact (Below.refl _ _).alloc (Nat.le_refl _) o
  have hlt1 : Hid (w.heap.size < w1.heap.size) := hs1.lt
  clear hs1 hw1 HL
  go_wp2_with fail
  refine (slits_form 8 5 (by omega) (by omega) (by omega) w.heap.size w.heap.size zs' 0 w1 HS1.out).mono ?_
  rintro e w2 ⟨xa, xc, xs, q2, rfl, hown, hlen, hsh, hs2, hg2⟩
  have HO2 := hidIt hown
  have HSH := hidIt hsh
  have HS2 := hidIt hs2
  have HB2 := hidIt (below_only HB1.out hg2 (Nat.le_refl _) hlt1.out)
  clear hown hsh hs2 hg2 HS1 HB1
  go_wp2_with fail
  have hcc := cons_count xs
  have hxl : xs.length ≤ 1000000 := by omega
  refine (consistent_any (.slice xa xs.length xc) xs _ HO2.out.lits.lits hxl (short_of HSH.out)).mono ?_
  rintro e w3 ⟨rfl, hb3⟩
  have HO3 := hidIt (HO2.out.below hb3)
  have HS3 := hidIt (HS2.out.grow (only_of_below hb3 none))
  have HB3 := hidIt (HB2.out.trans (hb3.mono HB2.out.size))
  clear hb3 HO2 HS2 HB2
  have HCC := hidIt hcc
  clear hcc
  go_wp2_with fail
  refine (names_any (.slice xa xs.length xc) xs _ HO3.out.lits.lits hxl).mono ?_
  rintro e w4 ⟨na, nc, rfl, hb4⟩
  have HO4 := hidIt (HO3.out.below hb4)
  have HS4 := hidIt (HS3.out.grow (only_of_below hb4 none))
  have HB4 := hidIt (HB3.out.trans (hb4.mono HB3.out.size))
  clear hb4 HO3 HS3 HB3
  go_wp2_with fail
  refine (normal_form (.slice xa xs.length xc) xs _ HO4.out.lits.lits hxl).mono ?_
  rintro e w5 ⟨ra, rc, rfl, _, hb5⟩
  have HO5 := hidIt (HO4.out.below hb5)
  have HS5 := hidIt (HS4.out.grow (only_of_below hb5 none))
  have HB5 := hidIt (HB4.out.trans (hb5.mono HB4.out.size))
  clear hb5 HO4 HS4 HB4
  have hcc2 : consB xs = ((nameCount xs : Int) == ((nrm xs).length : Int)) := by
    rw [HCC.out, Bool.eq_iff_iff]
    simp only [beq_iff_eq]
    omega
  have hxb : Hid (∀ x, (Value.slice xa xs.length xc).ownBlock = some x → x < w5.heap.size) := fun x hx => (HO5.out.own_block x hx).2
  have hbx : Hid (w.heap.size < w5.heap.size) := HS5.out.lt
  have hb1 : Hid (w.heap.size < w1.heap.size) := hlt1
  clear HCC
  go_wp2_with fail
  go_loopw [5, 23] (fun vp i wr => ∃ (k q : Nat) (ps : List Lt), k ≤ xs.length ∧ i = .int .i64 k ∧ ps.length ≤ k ∧ Hid (OwnL wr w5.heap.size vp ps) ∧ Hid (∀ x ∈ ps, x ∈ xs) ∧ Hid (OwnL wr w1.heap.size (.slice xa xs.length xc) xs) ∧ Hid (SrcAt wr w.heap.size w.heap.size zs' q) ∧ Hid (Below w.heap.size w wr) ∧ Hid (w5.heap.size ≤ wr.heap.size)) (fun _ i _ => xs.length - (intOf i).toNat)
  case atStart => exact ⟨0, _, [], Nat.zero_le _, rfl, Nat.le_refl _, OwnL.nil _ _, (show ∀ x ∈ [], x ∈ xs from by simp), HO5.out, HS5.out, HB5.out, Nat.le_refl _⟩
  case round =>
    clear HO5 HS5 HB5 hcc2
    obtain ⟨k, q, ps, hk, rfl, hpl, hown, hsub, hxo, hsrc, hbel, hsz⟩ := hrel
    by_cases hlt : k < xs.length
    · go_wp2_with fail
      refine (sn_nat 2 (by omega) (by omega) _ _ zs' q _ hsrc.out).mono ?_
      rintro e w6 ⟨m, q6, rfl, hm, hs6, hg6⟩
      have HP6 := hidIt (hown.out.kept hg6 (fun g e => by injection e with e; have := hbx.out; omega))
      have HX6 := hidIt (hxo.out.kept hg6 (fun g e => by injection e with e; have := hb1.out; omega))
      have HS6 := hidIt hs6
      have HB6 := hidIt (below_only hbel.out hg6 (Nat.le_refl _) hsrc.out.lt)
      have HZ6 : Hid (w5.heap.size ≤ w6.heap.size) := Nat.le_trans hsz.out hg6.size
      clear hs6 hg6
      by_cases hm0 : m = 0
      · subst hm0
        obtain ⟨a', c', hv, hcells⟩ := HX6.out.form
        obtain ⟨xb, hxa, c0, c1⟩ := hcells k hlt
        injection hv with hv1 hv2 hv3
        rw [← hv1] at hxa
        clear hcells hv1 hv3
        subst hxa
        obtain ⟨x, hx⟩ : ∃ x, x = xs[k]! := ⟨_, rfl⟩
        rw [← hx] at c0 c1
        have HX := hidIt hx
        clear hx
        obtain ⟨gx, sx⟩ := x
        simp only at c0 c1
        have hown7 := World.ownsRow.alloc HP6.out (.cells #[.bool gx, .string sx] 23)
        go_wp2_with (at_builtin; refine wpList_append_own _ rfl _ _ 29 rfl w5.heap.size 23 i0 _ 2 24 Try.underlying29 hi hz0 hz1 hz2 rfl (by decide) _ _ _ rfl hown7 ⟨w6.heap.size, 0, none⟩ 1 1 [.bool gx, .string sx] rfl rfl ?c1 ?c2 ?c3 ?c4 ?c5 ?_)
        case c1 => exact news_two w6 _ _ _
        case c2 =>
          intro u hu
          simp only [List.mem_cons, List.not_mem_nil, or_false] at hu
          rcases hu with rfl | rfl <;> rfl
        case c3 => unfold maxLen; omega
        case c4 => omega
        case c5 => have := HZ6.out; simp; omega
        intro v' w7 hown4 hg7 _
        have hr0 : ∀ gg, u5.ownBlock = some gg → w5.heap.size ≤ gg := fun gg e => (hown.out.own_block gg e).1
        have HO7 : Hid (OwnL w7 w5.heap.size v' (ps ++ [(⟨gx, sx⟩ : Lt)])) := by
          show World.ownsRow _ _ _ _ _ _ _
          rw [flatL_append, List.length_append, flatL_one_lit]
          exact hown4
        have HX7 := hidIt (OwnL.kept' (OwnL.alloc HX6.out (.cells #[.bool gx, .string sx] 23)) hg7 (fun g e x hx => by have := hr0 g e; have := hxb.out x hx; omega))
        have HS7 := hidIt ((HS6.out.alloc (.cells #[.bool gx, .string sx] 23)).own hg7 hr0 hbx.out)
        have HB7 := hidIt ((HB6.out.alloc (o := .cells #[.bool gx, .string sx] 23) (by have := hbx.out; have := HZ6.out; omega)).grown hg7 (by have := hbx.out; have := HZ6.out; simp; omega) (fun g e => by have := hr0 g e; have := hbx.out; omega))
        have HZ7 : Hid (w5.heap.size ≤ w7.heap.size) := by have h1 := hg7.size; have h2 := HZ6.out; show _ ≤ _; simp at h1; omega
        have hsub7 : Hid (∀ y ∈ ps ++ [(⟨gx, sx⟩ : Lt)], y ∈ xs) := by rw [HX.out]; exact part_snoc hsub.out hlt
        clear hown4 hg7 hown7 hr0
        go_wp2
        go_roundw
        case rel => exact ⟨k + 1, q6, ps ++ [(⟨gx, sx⟩ : Lt)], by omega, by go_num, by rw [List.length_append]; simp; omega, HO7, hsub7, HX7, HS7, HB7, HZ7⟩
        case measure => simp [intOf]; omega
      · have hm1 : ((m : Int) == 0) = false := by rw [beq_eq_false_iff_ne]; omega
        go_wp2
        go_roundw
        case rel => exact ⟨k + 1, q6, ps, by omega, by go_num, by omega, HP6, hsub, HX6, HS6, HB6, HZ6⟩
        case measure => simp [intOf]; omega
    · have hpart := consB_part xs ps hsub.out
      have hshp : Short ps := fun x hx => short_of HSH.out x (hsub.out x hx)
      have HC1 := hidIt (fun W => consistent_any u5 ps W)
      go_wp2_with fail
      refine (consistent_any u5 ps _ hown.out.lits.lits (by omega) hshp).mono ?_
      rintro e w6 ⟨rfl, hb6⟩
      have HX6 := hidIt (hxo.out.below hb6)
      have HB6 := hidIt (hbel.out.trans (hb6.mono hbel.out.size))
      clear hb6 hshp HC1
      cases hcp : consB ps
      · have hcx : consB xs = false := by
          cases h : consB xs
          · rfl
          · rw [hpart h] at hcp; cases hcp
        clear hpart
        go_wp2_with fail
        refine (consistent_any (.slice xa xs.length xc) xs _ HX6.out.lits.lits hxl (short_of HSH.out)).mono ?_
        rintro e w7 ⟨rfl, hb7⟩
        have HB7 := hidIt (HB6.out.trans (hb7.mono HB6.out.size))
        clear hb7
        go_wp2_with fail
        refine (awake_any _).mono ?_
        rintro e w8 ⟨rfl, hb8⟩
        have HB8 := hidIt (HB7.out.trans (hb8.mono HB7.out.size))
        clear hb8
        go_wp2
        go_ret
        exact ⟨rfl, HB8.out⟩
      · clear hpart
        go_wp2_with fail
        refine (awake_any _).mono ?_
        rintro e w8 ⟨rfl, hb8⟩
        have HB8 := hidIt (HB6.out.trans (hb8.mono HB6.out.size))
        clear hb8
        go_wp2
        go_ret
        exact ⟨rfl, HB8.out⟩
end Go.Proofs.Ytbldlngblmegfaa
