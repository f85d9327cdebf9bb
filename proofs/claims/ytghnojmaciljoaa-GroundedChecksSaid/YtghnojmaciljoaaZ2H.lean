/- Lists of three graphs beside a reader; the reference's Label and Ranks as lists that the call owns. Four lists beside a reader: GroundedChecks' state between its graph and its loops. -/
import Derived.Test.YtghnojmaciljoaaG2Ac
import Derived.Test.YtghnojmaciljoaaZ2G

namespace Go.Proofs.Ytghnojmaciljoaa
set_option linter.unusedVariables false
set_option linter.unusedSimpArgs false
open Go Go.RowKit Go.Sort

namespace Own
def isThree (b : Nat) : Value → World → Prop := fun v w => ∃ (g : Nat) (gs : List (Int × List (Int × Int))), v = .slice (some ⟨g, 0, none⟩) 3 3 ∧ gs.length = 3 ∧ GsX b w g gs
theorem isThree_up (b : Nat) : UpB b (isThree b) := fun _ _ _ hg ⟨g, gs, h1, h2, h3⟩ => ⟨g, gs, h1, h2, h3.keep hg⟩
end Own
theorem gsx_blk3 {b : Nat} {w : World} (hb : b < w.heap.size) {n1 n2 n3 : Int} {a1 a2 a3 : Option Addr} {c1 c2 c3 : Nat} {p1 p2 p3 : List (Int × Int)}
    (h1 : PX b w (.slice a1 p1.length c1) p1) (h2 : PX b w (.slice a2 p2.length c2) p2) (h3 : PX b w (.slice a3 p3.length c3) p3)
    (l1 : p1.length ≤ 1000) (l2 : p2.length ≤ 1000) (l3 : p3.length ≤ 1000) (t : TypeId) :
    GsX b (w.alloc (.cells #[.int .i64 n1, .slice a1 p1.length c1, .int .i64 n2, .slice a2 p2.length c2, .int .i64 n3, .slice a3 p3.length c3] t)) w.heap.size [(n1, p1), (n2, p2), (n3, p3)] := by
  have hn := heap_alloc_new w (.cells #[.int .i64 n1, .slice a1 p1.length c1, .int .i64 n2, .slice a2 p2.length c2, .int .i64 n3, .slice a3 p3.length c3] t)
  have hgr := bgrow w (.cells #[.int .i64 n1, .slice a1 p1.length c1, .int .i64 n2, .slice a2 p2.length c2, .int .i64 n3, .slice a3 p3.length c3] t)
  generalize w.alloc _ = W at hn hgr ⊢
  refine ⟨lt_of_block hn, by omega, fun i hi => ?_⟩
  match i, hi with
  | 0, _ => exact ⟨l1, a1, c1, by simp only [World.cell?, hn]; rfl, by simp only [World.cell?, hn]; rfl, h1.go hgr⟩
  | 1, _ => exact ⟨l2, a2, c2, by simp only [World.cell?, hn]; rfl, by simp only [World.cell?, hn]; rfl, h2.go hgr⟩
  | 2, _ => exact ⟨l3, a3, c3, by simp only [World.cell?, hn]; rfl, by simp only [World.cell?, hn]; rfl, h3.go hgr⟩
/-- A list that is owned from the block L on. -/
def isOw (L n : Nat) (xs : List Int) : Value → World → Prop := fun v w => ∃ a c, v = .slice a n c ∧ OwnI w L v xs
theorem isOw_up (L n : Nat) (xs : List Int) : GoesUp (isOw L n xs) := fun _ _ _ hg ⟨a, c, h1, h2⟩ => ⟨a, c, h1, h2.go hg⟩
theorem isOw.own {L n : Nat} {xs : List Int} {v : Value} {w : World} (h : isOw L n xs v w) : OwnI w L v xs := by
  obtain ⟨a, c, -, h2⟩ := h
  exact h2
/-- An owned list stays while a reader turns. -/
theorem OwnI.rd {w w' : World} {L b : Nat} {v : Value} {xs : List Int} (h : OwnI w L v xs) (hb : b < L) (hg : w.grownBy w' (some b)) : OwnI w' L v xs :=
  owns_kept h fun g e => hg.block g (owns_blk h g e).2 (fun e2 => by injection e2 with e2; have := (owns_blk h g e).1; omega)
/-- A list of three lists of numbers, as its cells read. -/
def L3At (w : World) (b : Nat) : Prop := b < w.heap.size ∧ ∀ k, k < 3 → ∃ (a : Option Addr) (n c : Nat) (xs : List Int), w.cell? ⟨b, k, none⟩ = some (.slice a n c) ∧ IL w (.slice a n c) xs ∧ xs.length ≤ 60
theorem L3At.go {w w' : World} {b : Nat} (h : L3At w b) (hb : Below w.heap.size w w') : L3At w' b := by
  obtain ⟨h1, h2⟩ := h
  refine ⟨Nat.lt_of_lt_of_le h1 hb.size, fun k hk => ?_⟩
  obtain ⟨a, n, c, xs, h3, h4, h5⟩ := h2 k hk
  exact ⟨a, n, c, xs, (Below.cell (p := ⟨b, k, none⟩) hb h1).trans h3, h4.below hb, h5⟩
theorem l3_blk {w : World} {a1 a2 a3 : Option Addr} {n1 n2 n3 c1 c2 c3 : Nat} {x1 x2 x3 : List Int} (h1 : IL w (.slice a1 n1 c1) x1) (h2 : IL w (.slice a2 n2 c2) x2) (h3 : IL w (.slice a3 n3 c3) x3) (l1 : x1.length ≤ 60) (l2 : x2.length ≤ 60) (l3 : x3.length ≤ 60) (t : TypeId) :
    L3At (w.alloc (.cells #[.slice a1 n1 c1, .slice a2 n2 c2, .slice a3 n3 c3] t)) w.heap.size := by
  have hn := heap_alloc_new w (.cells #[.slice a1 n1 c1, .slice a2 n2 c2, .slice a3 n3 c3] t)
  have hgr := bgrow w (.cells #[.slice a1 n1 c1, .slice a2 n2 c2, .slice a3 n3 c3] t)
  generalize w.alloc _ = W at hn hgr ⊢
  refine ⟨lt_of_block hn, fun k hk => ?_⟩
  match k, hk with
  | 0, _ => exact ⟨a1, n1, c1, x1, by simp only [World.cell?, hn]; rfl, h1.below hgr, l1⟩
  | 1, _ => exact ⟨a2, n2, c2, x2, by simp only [World.cell?, hn]; rfl, h2.below hgr, l2⟩
  | 2, _ => exact ⟨a3, n3, c3, x3, by simp only [World.cell?, hn]; rfl, h3.below hgr, l3⟩

set_option maxRecDepth 100000 in
set_option maxHeartbeats 1000000 in
theorem rdLabel_own {N : Nat} {a : Option Addr} {c L : Nat} {ps : List (Int × Int)} {w : World} {lab rk : List Int} (h : PairsAt w (.slice a ps.length c) ps) (hok : GOk (N : Int) ps) (hpl : ps.length ≤ 2000) (hs : GSpec N ps lab rk) (hL : L ≤ w.heap.size) :
    Calls Try.prog 12 #[.agg #[.int .i64 (N : Int), .slice a ps.length c]] w fun e w' => ∃ u, e = .returned u ∧ isOw L N lab u w' ∧ Below w.heap.size w w' := by
  have hgr := bgrow w (.cells #[.int .i64 (N : Int), .slice a ps.length c] 27)
  have H1 := hidIt (h.below hgr)
  have HB := hidIt hgr
  have HX := hidIt (heap_alloc_new w (.cells #[.int .i64 (N : Int), .slice a ps.length c] 27))
  have HS := hidIt hs
  have HLL := hidIt (Nat.le_trans hL hgr.size)
  clear h hgr hs
  go_enter Try.func12, Try.ntmps12
  go_upto_region 1 with (fail)
  generalize (w.alloc (.cells #[.int .i64 (N : Int), .slice a ps.length c] 27)) = w1 at *
  obtain ⟨x0, x1⟩ := And.intro (cell_two0 HX.out) (cell_two1 HX.out)
  have lx := lt_of_block HX.out
  go_wp2_with fail
  refine (rdBuild_any N a c ps w1 H1.out hok hpl).mono ?_
  rintro e w2 ⟨la, lc, ra, rc, lab', rk', rfl, hl, hr, hs2, hb⟩
  obtain ⟨rfl, rfl⟩ := HS.out.uniq hok.ix hs2
  have HL := hidIt (owns_mono hl (show L ≤ w1.heap.size + 1 by have := HLL.out; omega))
  have HB2 := hidIt (HB.out.trans (Below.mono hb HB.out.size))
  clear hl hr hs2 hb
  go_wp2_with fail
  go_ret
  exact ⟨_, rfl, ⟨la, lc, rfl, HL.out⟩, HB2.out⟩
set_option maxRecDepth 100000 in
set_option maxHeartbeats 1000000 in
theorem rdRanks_own {N : Nat} {a : Option Addr} {c L : Nat} {ps : List (Int × Int)} {w : World} {lab rk : List Int} (h : PairsAt w (.slice a ps.length c) ps) (hok : GOk (N : Int) ps) (hpl : ps.length ≤ 2000) (hs : GSpec N ps lab rk) (hL : L ≤ w.heap.size) :
    Calls Try.prog 14 #[.agg #[.int .i64 (N : Int), .slice a ps.length c]] w fun e w' => ∃ u, e = .returned u ∧ isOw L N rk u w' ∧ Below w.heap.size w w' := by
  have hgr := bgrow w (.cells #[.int .i64 (N : Int), .slice a ps.length c] 27)
  have H1 := hidIt (h.below hgr)
  have HB := hidIt hgr
  have HX := hidIt (heap_alloc_new w (.cells #[.int .i64 (N : Int), .slice a ps.length c] 27))
  have HS := hidIt hs
  have HLL := hidIt (Nat.le_trans hL hgr.size)
  clear h hgr hs
  go_enter Try.func14, Try.ntmps14
  go_upto_region 1 with (fail)
  generalize (w.alloc (.cells #[.int .i64 (N : Int), .slice a ps.length c] 27)) = w1 at *
  obtain ⟨x0, x1⟩ := And.intro (cell_two0 HX.out) (cell_two1 HX.out)
  have lx := lt_of_block HX.out
  go_wp2_with fail
  refine (rdBuild_any N a c ps w1 H1.out hok hpl).mono ?_
  rintro e w2 ⟨la, lc, ra, rc, lab', rk', rfl, hl, hr, hs2, hb⟩
  obtain ⟨rfl, rfl⟩ := HS.out.uniq hok.ix hs2
  have HL := hidIt (owns_mono hr (show L ≤ w1.heap.size + 1 by have := HLL.out; omega))
  have HB2 := hidIt (HB.out.trans (Below.mono hb HB.out.size))
  clear hl hr hs2 hb
  go_wp2_with fail
  go_ret
  exact ⟨_, rfl, ⟨ra, rc, rfl, HL.out⟩, HB2.out⟩
end Go.Proofs.Ytghnojmaciljoaa

namespace Go.Proofs.Ytghnojmaciljoaa
set_option linter.unusedVariables false
set_option linter.unusedSimpArgs false
open Go Go.RowKit Go.Sort

structure CK (w3 : World) (b N : Nat) (zs : List Int) (a4 p4 : Option Addr) (ac pc og oc tg tc : Nat) (lab rk ol tl : List Int) (wr : World) : Prop where
  gr : w3.grownBy wr (some b)
  src : ∃ k, SrcAt wr b b zs k
  gd : OwnI wr w3.heap.size (.slice a4 N ac) lab
  pf : OwnI wr w3.heap.size (.slice p4 N pc) rk
  od : OwnI wr w3.heap.size (.slice (some ⟨og, 0, none⟩) N oc) ol
  ot : OwnI wr w3.heap.size (.slice (some ⟨tg, 0, none⟩) N tc) tl
  oll : ol.length = N
  otl : tl.length = N
  ne : og ≠ tg
  d1 : ∀ g, (Value.slice a4 N ac).ownBlock = some g → g ≠ og ∧ g ≠ tg
  d2 : ∀ g, (Value.slice p4 N pc).ownBlock = some g → g ≠ og ∧ g ≠ tg
  ogl : w3.heap.size ≤ og
  tgl : w3.heap.size ≤ tg
  bl : b < w3.heap.size
section
variable {w3 : World} {b N : Nat} {zs : List Int} {a4 p4 : Option Addr} {ac pc og oc tg tc : Nat} {lab rk ol tl : List Int} {wr w' : World}
theorem CK.call (h : CK w3 b N zs a4 p4 ac pc og oc tg tc lab rk ol tl wr) {k : Nat} (hs : SrcAt w' b b zs k) (hg : wr.grownBy w' (some b)) : CK w3 b N zs a4 p4 ac pc og oc tg tc lab rk ol tl w' :=
  ⟨only_trans h.gr hg, ⟨k, hs⟩, h.gd.rd h.bl hg, h.pf.rd h.bl hg, h.od.rd h.bl hg, h.ot.rd h.bl hg, h.oll, h.otl, h.ne, h.d1, h.d2, h.ogl, h.tgl, h.bl⟩
theorem own_set {w : World} {L g m : Nat} {u : Value} {v : Value} {xs : List Int} (h : OwnI w L v xs) (hd : ∀ x, v.ownBlock = some x → x ≠ g) : OwnI (w.setCell ⟨g, m, none⟩ u) L v xs :=
  owns_kept h fun x e => Below.heap_setCell w ⟨g, m, none⟩ u x (by show x ≠ g; exact hd x e)
theorem CK.setO (h : CK w3 b N zs a4 p4 ac pc og oc tg tc lab rk ol tl wr) (m : Nat) (z : Int) : CK w3 b N zs a4 p4 ac pc og oc tg tc lab rk (ol.set m z) tl (wr.setCell ⟨og, m, none⟩ (.int .i64 z)) := by
  obtain ⟨k, hk⟩ := h.src
  have hb := h.bl
  have ho := h.ogl
  exact ⟨only_setCell h.gr (.inr h.ogl) _, ⟨k, hk.setCell _ _ (by show b ≤ og; omega) (by show og ≠ b; omega)⟩, own_set h.gd (fun x e => (h.d1 x e).1), own_set h.pf (fun x e => (h.d2 x e).1), h.od.set z, own_set h.ot (fun x e => by
    have e3 : tg = x := by injection e
    have := h.ne
    omega), by rw [List.length_set]; exact h.oll, h.otl, h.ne, h.d1, h.d2, h.ogl, h.tgl, h.bl⟩
theorem CK.setT (h : CK w3 b N zs a4 p4 ac pc og oc tg tc lab rk ol tl wr) (m : Nat) (z : Int) : CK w3 b N zs a4 p4 ac pc og oc tg tc lab rk ol (tl.set m z) (wr.setCell ⟨tg, m, none⟩ (.int .i64 z)) := by
  obtain ⟨k, hk⟩ := h.src
  have hb := h.bl
  have ho := h.tgl
  exact ⟨only_setCell h.gr (.inr h.tgl) _, ⟨k, hk.setCell _ _ (by show b ≤ tg; omega) (by show tg ≠ b; omega)⟩, own_set h.gd (fun x e => (h.d1 x e).2), own_set h.pf (fun x e => (h.d2 x e).2), own_set h.od (fun x e => by
    have e3 : og = x := by injection e
    have := h.ne
    omega), h.ot.set z, h.oll, by rw [List.length_set]; exact h.otl, h.ne, h.d1, h.d2, h.ogl, h.tgl, h.bl⟩
theorem CK.atO (h : CK w3 b N zs a4 p4 ac pc og oc tg tc lab rk ol tl wr) {m : Nat} (hm : m < N) : og < wr.heap.size ∧ (∃ z, wr.cell? ⟨og, m, none⟩ = some (.int .i64 z)) ∧ wr.frozen? ⟨og, m, none⟩ = false := by
  obtain ⟨g, he, -, h2, h3, h4⟩ := h.od.at1 h.oll hm (by rw [h.oll]; exact hm)
  injection he with he
  injection he with he
  subst he
  exact ⟨h2, ⟨_, h3⟩, h4⟩
theorem CK.atT (h : CK w3 b N zs a4 p4 ac pc og oc tg tc lab rk ol tl wr) {m : Nat} (hm : m < N) : tg < wr.heap.size ∧ (∃ z, wr.cell? ⟨tg, m, none⟩ = some (.int .i64 z)) ∧ wr.frozen? ⟨tg, m, none⟩ = false := by
  obtain ⟨g, he, -, h2, h3, h4⟩ := h.ot.at1 h.otl hm (by rw [h.otl]; exact hm)
  injection he with he
  injection he with he
  subst he
  exact ⟨h2, ⟨_, h3⟩, h4⟩
end
end Go.Proofs.Ytghnojmaciljoaa
