/- A valid rule base out of numbers (package keep). -/
import Derived.Test.YtfcoplplkbeljaaGreatDoorZ1K5s
import Derived.Test.YtfcoplplkbeljaaGreatDoorZ1M
import Derived.Test.YtfcoplplkbeljaaGreatDoorZ1N
import Derived.Deep.Cut
import Derived.Deep.CutRange

namespace Go.Proofs.YtfcoplplkbeljaaGreatDoor
set_option linter.unusedVariables false
set_option linter.unusedSimpArgs false
open Go Go.RowKit Go.Sort

/-- A rule base whose rows and bodies lie in blocks from L on. -/
def BaseOwn (w : World) (L : Nat) (v : Value) (b : Bs) : Prop := ∃ pv rv qv, v = .agg #[pv, rv, qv] ∧ OwnPm w L pv b.prems ∧ OwnRu w L (fun k => L ≤ k) rv b.rules ∧ OwnPr w L qv b.proms
theorem BaseOwn.at_ {w : World} {L : Nat} {v : Value} {b : Bs} (h : BaseOwn w L v b) : BaseAt w v b := by
  obtain ⟨pv, rv, qv, h1, h2, h3, h4⟩ := h
  exact ⟨pv, rv, qv, h1, h2.at_, h3.at_, h4.at_⟩
theorem BaseOwn.grown {w w' : World} {L : Nat} {v : Value} {b : Bs} {row : Option Nat} (h : BaseOwn w L v b) (hg : w.grownBy w' row) (hr : ∀ g, row = some g → g < L) : BaseOwn w' L v b := by
  obtain ⟨pv, rv, qv, h1, h2, h3, h4⟩ := h
  have hk : ∀ k, L ≤ k → k < w.heap.size → w'.heap[k]? = w.heap[k]? := fun k h1 h2 => hg.block k h2 (fun e => by have := hr k e.symm; omega)
  exact ⟨pv, rv, qv, h1, owns_kept h2 fun g e => hk g (owns_blk h2 g e).1 (owns_blk h2 g e).2, h3.kept (fun g e => hk g (h3.blk g e).1 (h3.blk g e).2) (fun k hS hl => hk k hS hl) hg.size (fun k hS _ => hS), owns_kept h4 fun g e => hk g (owns_blk h4 g e).1 (owns_blk h4 g e).2⟩
theorem owns_le {w : World} {B B' : Nat} {e : TypeId} {k : Nat} {v : Value} {n : Nat} {xs : List Value} (h : w.ownsRow B e k v n xs) (hb : B' ≤ B) : w.ownsRow B' e k v n xs := by
  refine ⟨h.1, ?_⟩
  rcases h.2 with h0 | ⟨g, cap, cur, hv, hB, h2⟩
  · exact .inl h0
  · exact .inr ⟨g, cap, cur, hv, by omega, h2⟩
theorem OwnPm.cell5 {w : World} {B : Nat} {a : Option Addr} {n c : Nat} {ps : List Pm} (h : OwnPm w B (.slice a n c) ps) : ∀ i (h : i < ps.length), ∃ g : Nat, a = some ⟨g, 0, none⟩ ∧ g < w.heap.size ∧ w.cell? ⟨g, i * 5, none⟩ = some (.bool (ps[i]).lit.neg) ∧ w.cell? ⟨g, i * 5 + 1, none⟩ = some (.string (ps[i]).lit.name) ∧
    w.cell? ⟨g, i * 5 + 2, none⟩ = some (.int .i64 (ps[i]).kind) ∧ w.cell? ⟨g, i * 5 + 3, none⟩ = some (.int .i64 (ps[i]).rank) ∧ w.cell? ⟨g, i * 5 + 4, none⟩ = some (.string (ps[i]).src) := by
  intro i hi
  rcases h.2 with ⟨hv, h0⟩ | ⟨g, cap, cur, hv, hB, hg, hnc, hcm, -, -⟩
  · omega
  · injection hv with hv1
    have hc := fun j (hj : j < 5) (u : Value) (hu : (encPm ps[i])[j]? = some u) => owns_cell h (by rw [hv1]) (i * 5 + j) u (by rw [flat_get encPm 5 (fun _ => rfl) ps i j hi hj]; exact hu)
    exact ⟨g, hv1, lt_of_block hg, hc 0 (by decide) _ rfl, hc 1 (by decide) _ rfl, hc 2 (by decide) _ rfl, hc 3 (by decide) _ rfl, hc 4 (by decide) _ rfl⟩
theorem BsIn.own {w : World} {B R L : Nat} {b : Bs} {pv rv qv : Value} (h : BsIn w B R b pv rv qv) (hL : L ≤ B) : BaseOwn w L (.agg #[pv, rv, qv]) b := by
  obtain ⟨vs, hvl, ho, hf⟩ := h.r
  exact ⟨pv, rv, qv, rfl, owns_le h.p hL, ⟨vs, hvl, owns_le ho hL, fun i hi hi' => (hf i hi hi').mono fun k hk => ⟨by have := hk.1.1; omega, hk.2⟩⟩, owns_le h.q hL⟩

theorem OwnL.bodyIn {w : World} {B : Nat} {v : Value} {ys : List Lt} {S : Nat → Prop} (h : OwnL w B v ys) (hS : ∀ k, B ≤ k → S k) : BodyIn w S v ys := by
  rcases h.2 with ⟨rfl, h0⟩ | ⟨g, cap, cur, hv, hB, hg, hnc, hcm, hcs, htk⟩
  · exact .inl ⟨rfl, List.eq_nil_of_length_eq_zero h0⟩
  · refine .inr ⟨g, 0, cap, hv, hnc, hcm, lt_of_block hg, hS g hB, fun i hi => ⟨?_, ?_⟩⟩
    · refine owns_cell h hv (0 + i * 2) _ ?_
      rw [flatL_eq, show 0 + i * 2 = i * 2 + 0 by omega, flat_get encL 2 encL_len ys i 0 hi (by omega)]
      rfl
    · refine owns_cell h hv (0 + i * 2 + 1) _ ?_
      rw [flatL_eq, show 0 + i * 2 + 1 = i * 2 + 1 by omega, flat_get encL 2 encL_len ys i 1 hi (by omega)]
      rfl
theorem ruleNm_at {m k : Nat} (hk : k < 26) (h : (m : Int) = modI ((k : Nat) : Int) 26) : m = k := by
  unfold modI at h
  rw [if_neg (by omega)] at h
  omega
theorem BaseOwn.mono {w : World} {L L' : Nat} {v : Value} {b : Bs} (h : BaseOwn w L v b) (hL : L' ≤ L) : BaseOwn w L' v b := by
  obtain ⟨pv, rv, qv, h1, h2, ⟨vs, hvl, ho, hf⟩, h4⟩ := h
  exact ⟨pv, rv, qv, h1, owns_le h2 hL, ⟨vs, hvl, owns_le ho hL, fun i hi hi' => (hf i hi hi').mono fun k hk => ⟨Nat.le_trans hL hk.1, hk.2⟩⟩, owns_le h4 hL⟩
theorem OwnRu.cell6 {w : World} {B : Nat} {S : Nat → Prop} {a : Option Addr} {n c : Nat} {rs : List Ru} (h : OwnRu w B S (.slice a n c) rs) : ∀ i (h : i < rs.length), ∃ (g : Nat) (bv : Value), a = some ⟨g, 0, none⟩ ∧ B ≤ g ∧ g < w.heap.size ∧ w.cell? ⟨g, i * 6, none⟩ = some (.string (rs[i]).name) ∧ w.cell? ⟨g, i * 6 + 1, none⟩ = some (.bool (rs[i]).strict) ∧
    w.cell? ⟨g, i * 6 + 2, none⟩ = some (.int .i64 (rs[i]).rank) ∧ w.cell? ⟨g, i * 6 + 3, none⟩ = some bv ∧ w.cell? ⟨g, i * 6 + 4, none⟩ = some (.bool (rs[i]).head.neg) ∧ w.cell? ⟨g, i * 6 + 5, none⟩ = some (.string (rs[i]).head.name) ∧ BodyIn w (fun k => S k ∧ (Value.slice a n c).ownBlock ≠ some k) bv rs[i].body := by
  obtain ⟨bs, hl, ho, hb⟩ := h
  intro i hi
  rcases ho.2 with ⟨hv, h0⟩ | ⟨g, cap, cur, hv, hB, hg, hnc, hcm, -, -⟩
  · omega
  · injection hv with hv1
    have hi2 : i < (rs.zip bs).length := by rw [List.length_zip]; omega
    have hi3 : i < bs.length := by omega
    have hc := fun j (hj : j < 6) (u : Value) (hu : (encRu rs[i] bs[i])[j]? = some u) => owns_cell ho (by rw [hv1]) (i * 6 + j) u (by
      rw [flat_get (fun x : Ru × Value => encRu x.1 x.2) 6 (fun _ => rfl) (rs.zip bs) i j hi2 hj, List.getElem_zip]; exact hu)
    exact ⟨g, bs[i], hv1, hB, lt_of_block hg, hc 0 (by decide) _ rfl, hc 1 (by decide) _ rfl, hc 2 (by decide) _ rfl, hc 3 (by decide) _ rfl, hc 4 (by decide) _ rfl, hc 5 (by decide) _ rfl, hb i hi hi3⟩
theorem kinds_of {kd : Int} (h : kd ∈ ([1, 2, 2, 2, 3] : List Int)) : kd = 1 ∨ kd = 2 ∨ kd = 3 := by simpa using h
theorem srcs_of {s : ByteArray} (h : s ∈ ([⟨#[]⟩, ⟨#[]⟩, ⟨#[97, 110, 110]⟩, ⟨#[98, 111, 98]⟩] : List ByteArray)) : s = ⟨#[]⟩ ∨ s = annT ∨ s = bobT := by simpa [annT, bobT] using h

set_option maxRecDepth 100000 in
set_option maxHeartbeats 8000000 in
theorem base_any (n mp mr : Nat) (hn1 : 1 ≤ n) (hn : n ≤ 26) (hmp : mp ≤ 1000) (hmr1 : 1 ≤ mr) (hmr : mr ≤ 26) (B b : Nat) (zs : List Int) (k : Nat) (w : World) (h : SrcAt w B b zs k) :
    Calls Tryz.prog 12 #[.pointer (some ⟨b, 0, none⟩), .int .i64 (n : Int), .int .i64 (mp : Int), .int .i64 (mr : Int)] w fun e w' => ∃ (v : Value) (bs : Bs) (q : Nat), e = .returned v ∧ BaseOwn w' w.heap.size v bs ∧ GenBs n mp mr bs ∧ SrcAt w' B b zs q ∧ w.grownBy w' (some b) := by
  have HR := hidIt (Run5.begin h)
  have hlt := h.lt
  clear h
  go_enter Tryz.func12, Tryz.ntmps12
  go_wp2_with fail
  generalize ((w.alloc (.cells #[.slice none 0 0, .slice none 0 0, .slice none 0 0] 32)).alloc (.cells #[.slice none 0 0, .slice none 0 0, .slice none 0 0] 32)) = w0 at *
  refine (sn_nat ((mp : Int) + 1) (by omega) (by omega) B b zs k _ HR.out.src).mono ?_
  rintro e w1 ⟨m, k1, rfl, hmm, hs1, hg1⟩
  have HR1 := hidIt (HR.out.call hs1 hg1)
  clear hs1 hg1 HR
  go_wp2_with fail
  go_loopw [10] (fun i wr => ∃ (r q : Nat) (ps : List Pm) (pv : Value), i = .int .i64 r ∧ r + ps.length ≤ mp ∧ Hid (Run5 w B b zs wr q ⟨ps, [], []⟩ pv (.slice none 0 0) (.slice none 0 0)) ∧ Hid (∀ p ∈ ps, GenPm n p) ∧ Hid (ps.Pairwise fun p q => p.lit ≠ q.lit)) (fun i _ => (intOf i).toNat)
  case atStart => exact ⟨m, k1, [], _, rfl, by simp; omega, HR1.out, (show ∀ p ∈ ([] : List Pm), GenPm n p from fun p hp => by simp at hp), (show ([] : List Pm).Pairwise _ from List.Pairwise.nil)⟩
  case round =>
    clear HR1
    obtain ⟨r, q, ps, pv, rfl, hr, hrun, hgen, honce⟩ := hrel
    by_cases hpos : 0 < r
    · go_wp2_with fail
      refine (slit_any (n : Int) (by omega) (by omega) B b zs q _ hrun.out.src).mono ?_
      rintro e w2 ⟨g, m2, q2, rfl, hm2, hs2, hg2⟩
      have HR2 := hidIt (hrun.out.call hs2 hg2)
      clear hs2 hg2 hrun
      go_wp2_with fail
      have HR3 := hidIt (HR2.out.more (bgrow w2 (.cells (intRow [1, 2, 2, 2, 3]) 3)))
      have hsz2 := HR2.out.size
      refine (pick_any w2.heap.size [1, 2, 2, 2, 3] 3 (by decide) (by decide) B b zs q2 _ HR3.out.src (heap_alloc_new w2 _) (by omega)).mono ?_
      rintro e w3 ⟨kd, q3, rfl, hkd, hs3, hg3⟩
      have HR4 := hidIt (HR3.out.call hs3 hg3)
      have hk := kinds_of hkd
      clear hs3 hg3 HR2 HR3 hkd
      go_wp2_with fail
      have HR5 := hidIt (HR4.out.more (bgrow w3 (.cells (strRow [⟨#[]⟩, ⟨#[]⟩, ⟨#[97, 110, 110]⟩, ⟨#[98, 111, 98]⟩]) 9)))
      have hsz3 := HR4.out.size
      refine (text_any w3.heap.size [⟨#[]⟩, ⟨#[]⟩, ⟨#[97, 110, 110]⟩, ⟨#[98, 111, 98]⟩] (by decide) (by decide) B b zs q3 _ HR5.out.src (heap_alloc_new w3 _) (by omega)).mono ?_
      rintro e w4 ⟨src, q4, rfl, hsrc, hs4, hg4⟩
      have HR6 := hidIt (HR5.out.call hs4 hg4)
      have HSRC := hidIt (srcs_of hsrc)
      clear hs4 hg4 HR4 HR5 hsrc
      go_upto_if 39 with (fail)
      have hsz4 := HR6.out.size
      have hb4 := HR6.out.src.lt
      have HS5 := hidIt (HR6.out.src.alloc (.cells #[.bool g, .string (letter m2), .int .i64 kd, .int .i64 0, .string src] 74))
      have HG5 := hidIt (only_alloc (only_refl w4 (some b)) (.cells #[.bool g, .string (letter m2), .int .i64 kd, .int .i64 0, .string src] 74))
      have HN5 := hidIt (heap_alloc_new w4 (.cells #[.bool g, .string (letter m2), .int .i64 kd, .int .i64 0, .string src] 74))
      generalize (w4.alloc (.cells #[.bool g, .string (letter m2), .int .i64 kd, .int .i64 0, .string src] 74)) = w5 at *
      go_cut [] from 23 to 66 (fun wx => ∃ (rk : Int) (qx : Nat), SrcAt wx B b zs qx ∧ w4.grownBy wx (some b) ∧ wx.heap[w4.heap.size]? = some (.cells #[.bool g, .string (letter m2), .int .i64 kd, .int .i64 rk, .string src] 74 (0, 0)) ∧ (0 ≤ rk ∧ rk ≤ 9) ∧ (kd ≠ 2 → rk = 0))
      case first =>
        obtain ⟨x0, x1, x2, x3, x4⟩ := bcell5 HN5.out
        have lx := lt_of_block HN5.out
        by_cases hk2 : kd = 2
        · subst hk2
          clear hk
          go_wp2_with fail
          refine (sn_nat 4 (by omega) (by omega) B b zs q4 _ HS5.out).mono ?_
          rintro e w6 ⟨m6, q6, rfl, hm6, hs6, hg6⟩
          have hN6 := (hg6.block w4.heap.size lx (fun e => by injection e with e; omega)).trans HN5.out
          have HN6 := hidIt hN6
          have f6 := free_any hN6 3
          have l6 := lt_of_block hN6
          obtain ⟨y0, y1, y2, y3, y4⟩ := bcell5 hN6
          have HS6 := hidIt hs6
          have HG6 := hidIt (only_trans HG5.out hg6)
          have hBb := HR6.out.base_le
          clear hN6 hs6 hg6 x0 x1 x2 x3 x4
          go_wp2_with fail
          go_meet
          exact ⟨(m6 : Int), q6, HS6.out.setCell _ _ (by show B ≤ w4.heap.size; omega) (by show w4.heap.size ≠ b; omega), only_setCell HG6.out (.inr (Nat.le_refl _)) _, set_cells HN6.out, ⟨by omega, by omega⟩, fun h => absurd rfl h⟩
        · go_wp2_with fail
          go_meet
          exact ⟨0, q4, HS5.out, HG5.out, HN5.out, ⟨by omega, by omega⟩, fun _ => rfl⟩
      case rest =>
        obtain ⟨rk, qx, hsx, hgx, hPx, hrk, hrk0⟩ := hcut
        have HRx := hidIt (HR6.out.call hsx hgx)
        have HPx := hidIt hPx
        have HRK := hidIt hrk
        have HRK0 := hidIt hrk0
        clear hsx hgx hPx hrk hrk0 HS5 HG5 HN5
        generalize w4.heap.size = P at *
        obtain ⟨ap, cp, rfl, hp1, hp2⟩ := shape_own HRx.out.ok.p
        obtain ⟨k0, k1, k2⟩ := bcell3 HRx.out.ok.box
        have lR := lt_of_block HRx.out.ok.box
        clear HR6
        go_wp2_with fail
        clear k0 k1 k2 lR
        go_loopw [12, 46] (fun d i wr => ∃ (j : Nat) (dv : Bool), i = .int .i64 j ∧ d = .bool dv ∧ j ≤ ps.length ∧ Hid (Below wc.heap.size wc wr) ∧ Hid (dv = false → ∀ t (ht : t < ps.length), t < j → ps[t].lit ≠ ⟨g, letter m2⟩)) (fun _ i _ => ps.length - (intOf i).toNat)
        case atStart => exact ⟨0, false, rfl, rfl, Nat.zero_le _, Below.refl _ _, fun _ t ht h => absurd h (by omega)⟩
        case round =>
          obtain ⟨j, dv, rfl, rfl, hj, HBr, HD⟩ := hrel
          have HRr := hidIt (HRx.out.more HBr.out)
          have hPr := blk_kept2 HPx.out HBr.out
          obtain ⟨x0, x1, x2, x3, x4⟩ := bcell5 hPr
          have lx := lt_of_block hPr
          have hj0 : (0 : Int) ≤ (j : Int) := by omega
          have HPr := hidIt hPr
          clear hPr
          by_cases hjl : j < ps.length
          · obtain ⟨gb, rfl, hgl, c0, c1, c2, c3, c4⟩ := OwnPm.cell5 HRr.out.ok.p j hjl
            have hjI : (j : Int) < (ps.length : Int) := by omega
            have hd0 := (bgrow wr (.cells #[.bool ps[j].lit.neg, .string ps[j].lit.name, .int .i64 ps[j].kind, .int .i64 ps[j].rank, .string ps[j].src] 74))
            have HB2 := hidIt (HBr.out.trans (Below.mono hd0 HBr.out.size))
            have hP2 := blk_kept2 HPr.out hd0
            obtain ⟨z0, z1, z2, z3, z4⟩ := bcell5 hP2
            clear hd0
            have hgd := fun (op : BinOp) (a b' : Operand) (w : World) => gdL op a b' ps[j].lit.neg g ps[j].lit.name (letter m2) w
            by_cases he : ps[j].lit = ⟨g, letter m2⟩
            · have hq : ∀ w, (Op.equalIn 10000 46 (.agg #[.bool ps[j].lit.neg, .string ps[j].lit.name]) (.agg #[.bool g, .string (letter m2)])).run Tryz.prog w = .ok true w := fun w => by rw [eqFieldsL, decide_eq_true]; exact he
              have HE := hidIt he
              clear he
              cases dv
              · go_wp2_with fail
                go_roundw
                case rel => exact ⟨j + 1, true, by go_num, rfl, by omega, HB2.out, fun h => by cases h⟩
                case measure => simp [intOf]; omega
              · go_wp2_with fail
                go_roundw
                case rel => exact ⟨j + 1, true, by go_num, rfl, by omega, HB2.out, fun h => by cases h⟩
                case measure => simp [intOf]; omega
            · have hq : ∀ w, (Op.equalIn 10000 46 (.agg #[.bool ps[j].lit.neg, .string ps[j].lit.name]) (.agg #[.bool g, .string (letter m2)])).run Tryz.prog w = .ok false w := fun w => by rw [eqFieldsL, decide_eq_false]; exact he
              have HE := hidIt he
              clear he
              cases dv
              · go_wp2_with fail
                go_roundw
                case rel =>
                  refine ⟨j + 1, false, by go_num, rfl, by omega, HB2.out, fun _ t ht htj => ?_⟩
                  by_cases htt : t < j
                  · exact HD.out rfl t ht htt
                  · obtain rfl : t = j := by omega
                    exact HE.out
                case measure => simp [intOf]; omega
              · go_wp2_with fail
                go_roundw
                case rel => exact ⟨j + 1, true, by go_num, rfl, by omega, HB2.out, fun h => by cases h⟩
                case measure => simp [intOf]; omega
          · have hjI : ¬ (j : Int) < (ps.length : Int) := by omega
            have hr0 : IntKind.i64.wrap ((r : Int) - 1) = (r : Int) - 1 := by rw [IntKind.wrap_i64]; omega
            cases dv
            · obtain ⟨k0, k1, k2⟩ := bcell3 HRr.out.ok.box
              have lR := lt_of_block HRr.out.ok.box
              have hszr := HRr.out.size
              have HRa := hidIt (HRr.out.more (bgrow wr (.cells #[.bool g, .string (letter m2), .int .i64 kd, .int .i64 rk, .string src] 74)))
              have HOB : Hid (∀ gg, (Value.slice ap ps.length cp).ownBlock = some gg → w.heap.size + 2 ≤ gg ∧ gg < wr.heap.size) := owns_blk HRr.out.ok.p
              go_wp2_with (at_builtin; refine Hid.out ?_)
              refine hidIt ?_
              refine wpList_append_kb rfl _ _ elemPm rfl (w.heap.size + 2) (.slice ap ps.length cp) ps.length (ps.flatMap encPm) rfl HRa.out.ok.p _ 1 rfl #[.bool g, .string (letter m2), .int .i64 kd, .int .i64 rk, .string src] 74 (heap_alloc_new _ _) rfl (one_of (by rfl)) (by omega) (by rw [size_alloc]; omega) ?_
              intro g8 c8 w8 hown8 hg8 hbl8
              have HR9 := hidIt (HRa.out.addP (p := ⟨⟨g, letter m2⟩, kd, rk, src⟩) hown8 hg8 hbl8)
              have hb8 := (hg8.block (w.heap.size + 1) (by rw [size_alloc]; omega) (fun e => by have := (HOB.out _ e.symm).1; omega)).trans HRa.out.ok.box
              obtain ⟨k0', k1', k2'⟩ := bcell3 hb8
              have f8 := free_any hb8 0
              have l8 := lt_of_block hb8
              clear hown8 hg8 hbl8 hb8 k0 k1 k2 x0 x1 x2 x3 x4
              go_wp2_with fail
              go_roundw
              case rel =>
                refine ⟨r - 1, qx, ps ++ [(⟨⟨g, letter m2⟩, kd, rk, src⟩ : Pm)], _, by go_num, by rw [List.length_append]; simp; omega, HR9.out, ?_, ?_⟩
                · exact snoc_all hgen.out ⟨⟨m2, by omega, rfl⟩, hk, HRK.out, HRK0.out, HSRC.out⟩
                · refine List.pairwise_append.2 ⟨honce.out, List.pairwise_singleton _ _, fun a ha c hc => ?_⟩
                  rw [List.mem_singleton.1 hc]
                  obtain ⟨t, ht, rfl⟩ := List.getElem_of_mem ha
                  exact HD.out (by trivial) t ht (by omega)
              case measure => simp [intOf]; omega
            · go_wp2_with fail
              go_roundw
              case rel => exact ⟨r - 1, qx, ps, _, by go_num, by omega, HRr.out, hgen.out, honce.out⟩
              case measure => simp [intOf]; omega
    · have hpsl : ps.length ≤ mp := by omega
      clear hr
      obtain ⟨ap, cp, rfl, hp1, hp2⟩ := shape_own hrun.out.ok.p
      go_wp2_with fail
      refine (sn_nat ((mr : Int) + 1) (by omega) (by omega) B b zs q _ hrun.out.src).mono ?_
      rintro e w1 ⟨m, k1, rfl, hmm1, hs1, hg1⟩
      have HR1 := hidIt (hrun.out.call hs1 hg1)
      clear hs1 hg1 hrun
      go_wp2_with fail
      go_loopw [15] (fun i wr => ∃ (r q : Nat) (rs : List Ru) (rv : Value), i = .int .i64 r ∧ r + rs.length ≤ mr ∧ Hid (Run5 w B b zs wr q ⟨ps, rs, []⟩ (.slice ap ps.length cp) rv (.slice none 0 0)) ∧ Hid (∀ i (h : i < rs.length), GenRu n i rs[i])) (fun i _ => (intOf i).toNat)
      case atStart => exact ⟨m, k1, [], _, rfl, by simp; omega, HR1.out, (show ∀ i (h : i < ([] : List Ru).length), GenRu n i ([] : List Ru)[i] from fun i h => by simp at h)⟩
      case round =>
        clear HR1
        obtain ⟨r, q, rs, rv, rfl, hr, hrun, hgr⟩ := hrel
        obtain ⟨ar, cr, rfl, hr1, hr2⟩ := (show ∃ (a : Option Addr) (c : Nat), rv = .slice a rs.length c ∧ rs.length ≤ c ∧ c ≤ maxLen by obtain ⟨vs, -, ho, -⟩ := hrun.out.ok.r; exact shape_own ho)
        by_cases hpos : 0 < r
        · obtain ⟨k0, k1, k2⟩ := bcell3 hrun.out.ok.box
          have lR := lt_of_block hrun.out.ok.box
          go_wp2_with fail
          refine (ruleName_any (rs.length : Int) ⟨by omega, by omega⟩ _).mono ?_
          rintro e w2 ⟨m2, rfl, hm2, hb2⟩
          obtain rfl := ruleNm_at (by omega) hm2
          have HR2 := hidIt (hrun.out.more hb2)
          clear hm2
          clear hb2 hrun k0 k1 k2 lR
          go_wp2_with fail
          refine (sn_nat 3 (by omega) (by omega) B b zs q _ HR2.out.src).mono ?_
          rintro e w3 ⟨m3, q3, rfl, hm3, hs3, hg3⟩
          have HR3 := hidIt (HR2.out.call hs3 hg3)
          clear hs3 hg3 HR2
          go_wp2_with fail
          refine (slits2_any 2 n (by omega) hn1 hn B b zs q3 _ HR3.out.src).mono ?_
          rintro e w4 ⟨vl, xs, q4, rfl, hown4, hxl, hxn, hs4, hg4⟩
          have HR4 := hidIt (HR3.out.call hs4 hg4)
          have HXN := hidIt hxn
          have HO4 := hidIt hown4
          clear hs4 hg4 HR3 hxn hown4
          go_wp2_with fail
          refine (sorted_any xs (by omega) vl _ HO4.out.body).mono ?_
          rintro e w5 ⟨vb, ys, rfl, hown5, hup5, hin5, hyl5, hb5⟩
          have HR5 := hidIt (HR4.out.more hb5)
          have hsz4 := HR4.out.size
          have HBD : Hid (BodyIn w5 (fun k => (w.heap.size + 2 ≤ k ∧ (Value.slice ap ps.length cp).ownBlock ≠ some k ∧ (Value.slice none 0 0).ownBlock ≠ some k) ∧ (Value.slice ar rs.length cr).ownBlock ≠ some k) vb ys) :=
            hown5.bodyIn fun k hk => ⟨⟨by omega, fun e => by have := (owns_blk HR4.out.ok.p k e).2; omega, fun e => by simp [Value.ownBlock] at e⟩, fun e => by have := (HR4.out.ok.r.blk k e).2; omega⟩
          have HUP := hidIt hup5
          have HYN : Hid (Letters n ys) := fun y hy => HXN.out y (hin5 y hy)
          obtain ⟨ab, cb, rfl, hyc, hcb, -⟩ := hown5.form5
          clear hown5 hup5 hin5 hb5 HR4 HO4 HXN
          go_wp2_with fail
          refine (slit_any (n : Int) (by omega) (by omega) B b zs q4 _ HR5.out.src).mono ?_
          rintro e w6 ⟨hg, hm, q6, rfl, hhm, hs6, hg6⟩
          have HR6 := hidIt (HR5.out.call hs6 hg6)
          have hbs : b < w.heap.size := HR5.out.lt
          have HBD6 := hidIt (HBD.out.grown hg6 (fun g e h => by injection e with e; have := h.1.1; omega))
          clear hs6 hg6 HR5 HBD
          have hst : ∃ st : Bool, ((m3 : Int) == 0) = st := ⟨_, rfl⟩
          obtain ⟨st, hst⟩ := hst
          go_upto_if 92 with (fail)
          clear hst
          have hsz6 := HR6.out.size
          have hb6 := HR6.out.src.lt
          have hBb := HR6.out.base_le
          have HS7 := hidIt (HR6.out.src.alloc (.cells #[.string (ruleNm rs.length), .bool st, .int .i64 0, .slice ab ys.length cb, .bool hg, .string (letter hm)] 64))
          have HG7 := hidIt (only_alloc (only_refl w6 (some b)) (.cells #[.string (ruleNm rs.length), .bool st, .int .i64 0, .slice ab ys.length cb, .bool hg, .string (letter hm)] 64))
          have HN7 := hidIt (heap_alloc_new w6 (.cells #[.string (ruleNm rs.length), .bool st, .int .i64 0, .slice ab ys.length cb, .bool hg, .string (letter hm)] 64))
          generalize (w6.alloc (.cells #[.string (ruleNm rs.length), .bool st, .int .i64 0, .slice ab ys.length cb, .bool hg, .string (letter hm)] 64)) = w7 at *
          go_cut [] from 71 to 113 (fun wx => ∃ (rk : Int) (qx : Nat), SrcAt wx B b zs qx ∧ w6.grownBy wx (some b) ∧ wx.heap[w6.heap.size]? = some (.cells #[.string (ruleNm rs.length), .bool st, .int .i64 rk, .slice ab ys.length cb, .bool hg, .string (letter hm)] 64 (0, 0)) ∧ (0 ≤ rk ∧ rk ≤ 9) ∧ (st = true → rk = 0))
          case first =>
            obtain ⟨x0, x1, x2, x3, x4, x5⟩ := bcell6 HN7.out
            have lx := lt_of_block HN7.out
            cases st
            · go_wp2_with fail
              refine (sn_nat 4 (by omega) (by omega) B b zs q6 _ HS7.out).mono ?_
              rintro e w8 ⟨m8, q8, rfl, hm8, hs8, hg8⟩
              have hN8 := (hg8.block w6.heap.size lx (fun e => by injection e with e; omega)).trans HN7.out
              have HN8 := hidIt hN8
              have f8 := free_any hN8 2
              have l8 := lt_of_block hN8
              obtain ⟨y0, y1, y2, y3, y4, y5⟩ := bcell6 hN8
              have HS8 := hidIt hs8
              have HG8 := hidIt (only_trans HG7.out hg8)
              clear hN8 hs8 hg8 x0 x1 x2 x3 x4 x5
              go_wp2_with fail
              go_meet
              exact ⟨(m8 : Int), q8, HS8.out.setCell _ _ (by show B ≤ w6.heap.size; omega) (by show w6.heap.size ≠ b; omega), only_setCell HG8.out (.inr (Nat.le_refl _)) _, set_cells HN8.out, ⟨by omega, by omega⟩, fun h => by cases h⟩
            · go_wp2_with fail
              go_meet
              exact ⟨0, q6, HS7.out, HG7.out, HN7.out, ⟨by omega, by omega⟩, fun _ => rfl⟩
          case rest =>
            obtain ⟨rk, qx, hsx, hgx, hPx, hrk, hrk0⟩ := hcut
            have HRK := hidIt hrk
            have HRK0 := hidIt hrk0
            clear hrk hrk0 HS7 HG7 HN7
            go_wp2_with fail
            refine (sn_nat 6 (by omega) (by omega) B b zs qx _ hsx).mono ?_
            rintro e w8 ⟨m8, q8, rfl, hm8, hs8, hg8⟩
            have HN8 := hidIt ((hg8.block w6.heap.size (lt_of_block hPx) (fun e => by injection e with e; omega)).trans hPx)
            have HS8 := hidIt hs8
            have HG8 := hidIt (only_trans hgx hg8)
            clear hsx hgx hPx hs8 hg8
            go_upto_if 98 with (fail)
            go_cut [] from 71 to 113 (fun wx => ∃ (hd : Lt) (qx : Nat), SrcAt wx B b zs qx ∧ w6.grownBy wx (some b) ∧ wx.heap[w6.heap.size]? = some (.cells #[.string (ruleNm rs.length), .bool st, .int .i64 rk, .slice ab ys.length cb, .bool hd.neg, .string hd.name] 64 (0, 0)) ∧ (LetterN n hd ∨ ∃ j, j < 26 ∧ hd.name = ruleNm j))
            case first =>
              by_cases h5 : (m8 : Int) = 5
              · have h5b : ((m8 : Int) == 5) = true := by rw [h5]; rfl
                have H5 := hidIt h5
                clear h5
                go_wp2_with fail
                refine (sn_nat 4 (by omega) (by omega) B b zs q8 _ HS8.out).mono ?_
                rintro e w9 ⟨m9, q9, rfl, hm9, hs9, hg9⟩
                have HN9 := hidIt ((hg9.block w6.heap.size (lt_of_block HN8.out) (fun e => by injection e with e; omega)).trans HN8.out)
                have HS9 := hidIt hs9
                have HG9 := hidIt (only_trans HG8.out hg9)
                clear hs9 hg9
                go_wp2_with fail
                refine (sn_nat (mr : Int) (by omega) (by omega) B b zs q9 _ HS9.out).mono ?_
                rintro e w10 ⟨m10, q10, rfl, hm10, hs10, hg10⟩
                have HN10 := hidIt ((hg10.block w6.heap.size (lt_of_block HN9.out) (fun e => by injection e with e; omega)).trans HN9.out)
                have HS10 := hidIt hs10
                have HG10 := hidIt (only_trans HG9.out hg10)
                clear hs10 hg10 HN9 HS9 HG9
                go_wp2_with fail
                refine (ruleName_any (m10 : Int) ⟨by omega, by omega⟩ _).mono ?_
                rintro e w11 ⟨m11, rfl, hm11, hb11⟩
                obtain rfl := ruleNm_at (by omega) hm11
                clear hm11
                have hN11 := blk_kept2 HN10.out hb11
                have HS11 := hidIt (HS10.out.grow (only_of_below hb11 none))
                have HG11 := hidIt (only_trans HG10.out (only_of_below hb11 _))
                have f11 := free_any hN11 4
                have f11' := free_any hN11 5
                have l11 := lt_of_block hN11
                obtain ⟨y0, y1, y2, y3, y4, y5⟩ := bcell6 hN11
                have HN11 := hidIt hN11
                clear hN11 hb11 HN10 HS10 HG10
                go_wp2_with fail
                go_meet
                exact ⟨⟨decide (0 < m9), ruleNm m11⟩, q10, (HS11.out.setCell _ _ (by show B ≤ w6.heap.size; omega) (by show w6.heap.size ≠ b; omega)).setCell _ _ (by show B ≤ w6.heap.size; omega) (by show w6.heap.size ≠ b; omega), only_setCell (only_setCell HG11.out (.inr (Nat.le_refl _)) _) (.inr (Nat.le_refl _)) _, set_cells (set_cells HN11.out), .inr ⟨m11, by omega, rfl⟩⟩
              · have h5b : ((m8 : Int) == 5) = false := by simpa using h5
                have H5 := hidIt h5
                clear h5
                go_wp2_with fail
                go_meet
                exact ⟨⟨hg, letter hm⟩, q8, HS8.out, HG8.out, HN8.out, .inl ⟨hm, by omega, rfl⟩⟩
            case rest =>
              obtain ⟨⟨hdg, hdn⟩, qx2, hsx, hgx, hPx, hhd⟩ := hcut
              have HRx := hidIt (HR6.out.call hsx hgx)
              have HHD := hidIt hhd
              have HBDx := hidIt (HBD6.out.grown hgx (fun g e h => by injection e with e; have := h.1.1; omega))
              obtain ⟨x0, x1, x2, x3, x4, x5⟩ := bcell6 hPx
              have lx := lt_of_block hPx
              obtain ⟨k0, k1, k2⟩ := bcell3 HRx.out.ok.box
              have lR := lt_of_block HRx.out.ok.box
              have hszx := HRx.out.size
              have hbx := bgrow wc (.cells #[.string (ruleNm rs.length), .bool st, .int .i64 rk, .slice ab ys.length cb, .bool hdg, .string hdn] 64)
              have HRa := hidIt (HRx.out.more hbx)
              have HBDa := hidIt (HBDx.out.grown (only_of_below hbx none) (fun g e => by cases e))
              have HOB : Hid (∀ gg, (Value.slice ar rs.length cr).ownBlock = some gg → w.heap.size + 2 ≤ gg ∧ gg < wc.heap.size) := HRx.out.ok.r.blk
              obtain ⟨vs, hvl, ho, hf⟩ := HRa.out.ok.r
              have HF := hidIt hf
              have HO := hidIt ho
              have HVL := hidIt hvl
              clear hsx hgx hPx hhd hbx HN8 HS8 HG8 HBD6 HBDx HR6 hf ho hvl
              go_wp2_with (at_builtin; refine Hid.out ?_)
              refine hidIt ?_
              refine wpList_append_kb rfl _ _ elemRu rfl (w.heap.size + 2) (.slice ar rs.length cr) rs.length _ rfl HO.out _ 1 rfl #[.string (ruleNm rs.length), .bool st, .int .i64 rk, .slice ab ys.length cb, .bool hdg, .string hdn] 64 (heap_alloc_new _ _) rfl (one_of (by rfl)) (by omega) (by rw [size_alloc]; omega) ?_
              intro g8 c8 w8 hown8 hg8 hbl8
              have HR9 := hidIt (HRa.out.addR (r := ⟨ruleNm rs.length, st, rk, ys, ⟨hdg, hdn⟩⟩) HVL.out HF.out hown8 hg8 hbl8 HBDa.out)
              have hb8 := (hg8.block (w.heap.size + 1) (by rw [size_alloc]; omega) (fun e => by have := (HOB.out _ e.symm).1; omega)).trans HRa.out.ok.box
              obtain ⟨k0', k1', k2'⟩ := bcell3 hb8
              have f8 := free_any hb8 1
              have l8 := lt_of_block hb8
              clear hown8 hg8 hbl8 hb8 k0 k1 k2 x0 x1 x2 x3 x4 x5
              go_wp2_with fail
              go_roundw
              case rel =>
                refine ⟨r - 1, qx2, rs ++ [(⟨ruleNm rs.length, st, rk, ys, ⟨hdg, hdn⟩⟩ : Ru)], _, by go_num, by rw [List.length_append]; simp; omega, HR9.out, ?_⟩
                intro i hi
                by_cases hil : i < rs.length
                · rw [List.getElem_append_left hil]
                  exact hgr.out i hil
                · have hie : i = rs.length := by rw [List.length_append, List.length_singleton] at hi; omega
                  subst hie
                  rw [List.getElem_append_right (Nat.le_refl _)]
                  simp only [Nat.sub_self, List.getElem_cons_zero]
                  exact ⟨rfl, HRK.out, HRK0.out, HYN.out, HUP.out, by show ys.length ≤ 2; omega, HHD.out⟩
              case measure => simp [intOf]; omega
        · have hrsl : rs.length ≤ mr := by omega
          clear hr
          go_wp2_with fail
          refine (sn_nat 3 (by omega) (by omega) B b zs q _ hrun.out.src).mono ?_
          rintro e w1 ⟨m, k1, rfl, hmm1, hs1, hg1⟩
          have HR1 := hidIt (hrun.out.call hs1 hg1)
          clear hs1 hg1 hrun
          go_wp2_with fail
          go_loopw [17] (fun i wr => ∃ (r q : Nat) (qs : List Pr) (qv : Value), i = .int .i64 r ∧ r + qs.length ≤ 2 ∧ Hid (Run5 w B b zs wr q ⟨ps, rs, qs⟩ (.slice ap ps.length cp) (.slice ar rs.length cr) qv) ∧ Hid (∀ p ∈ qs, GenPr n rs p)) (fun i _ => (intOf i).toNat)
          case atStart => exact ⟨m, k1, [], _, rfl, by simp; omega, HR1.out, (show ∀ p ∈ ([] : List Pr), GenPr n rs p from fun p hp => by simp at hp)⟩
          case round =>
            clear HR1
            obtain ⟨r, q, qs, qv, rfl, hr, hrun, hgq⟩ := hrel
            obtain ⟨aq, cq, rfl, hq1, hq2⟩ := shape_own hrun.out.ok.q
            obtain ⟨k0, k1, k2⟩ := bcell3 hrun.out.ok.box
            have lR := lt_of_block hrun.out.ok.box
            have hblt := hrun.out.lt
            have hszr := hrun.out.size
            by_cases hgo : 0 < r ∧ 0 < rs.length
            · obtain ⟨hpos, hrl⟩ := hgo
              have hposI : (0 : Int) < (r : Int) := by omega
              have hrlI : (0 : Int) < (rs.length : Int) := by omega
              go_wp2_with fail
              have HS0 := hidIt hrun.out.src
              have KC : ∀ wx, Own.CB wr B b zs wx → wx.cell? ⟨w.heap.size + 1, 1, none⟩ = some (.slice ar rs.length cr) := fun wx hC => hC.cell k1 (by omega)
              have HCALL : Hid (∀ wx, Own.CB wr B b zs wx → Calls Tryz.prog 14 #[.pointer (some ⟨b, 0, none⟩), .int .i64 (rs.length : Int)] wx fun e w'' => ∃ u, e = .returned u ∧ Own.CB wr B b zs w'' ∧ Own.GB b wx w'' ∧ Own.relR (Own.rA (Own.isNat rs.length)) wx u w'') := fun wx hC => Own.callN rs.length hrl (by omega) hC
              haveI : Nonempty (In (Own.CB wr B b zs)) := ⟨⟨wr, Own.CB.one _ _ _ _ _ HS0.out⟩⟩
              refine Own.wp_region_tail 10 (Own.CB wr B b zs) (Own.GB b) (Own.relTab [(132, Own.rA (Own.isNat rs.length)), (18, Own.rA (Own.isBoxB wr.heap.size b #[.string ⟨#[]⟩, .bool false, .int .i64 0, .slice none 0 0, .bool false, .string ⟨#[]⟩] 64))]) (by kernel_rfl) (by kernel_rfl) (by kernel_rfl) (by kernel_rfl) (by kernel_rfl) (by kernel_rfl) (Own.stableB_cons (Own.isNat_up _ _) (Own.stableB_cons (Own.isBoxB_up _ _ _ _) (Own.stableB_nil _ _))) (Own.CB.start HS0.out) ?_
              simp only [Own.idleTail]
              repeat (
                refine' Own.walkR_plain (by kernel_rfl) rfl rfl (fun wx hC hL => ?_) ?_
                rotate_left
                · (have hlw := hC.1.size
                   have hlw1 := Nat.lt_of_lt_of_le lR hlw
                   simp only [KC wx hC, hlw1, go_sem]; first | done | (go_simp; exact ⟨rfl, rfl⟩))
                simp only [Act.put, List.setIfInBounds_toArray, List.set_cons_zero, List.set_cons_succ])
              refine Own.walkR_rel (by kernel_rfl) rfl rfl (of_decide_eq_true (by kernel_rfl)) (fun wx hC hL => ?_) (fun v hv => ?_)
              · go_simp
                exact HCALL.out wx hC
              obtain ⟨_, _, m3, rfl, hm3⟩ := hv
              simp only [Act.put, List.setIfInBounds_toArray, List.set_cons_zero, List.set_cons_succ]
              obtain ⟨gr, bv, rfl, hgB, hgl, c0, c1, c2, c3, c4, c5, hbv⟩ := OwnRu.cell6 hrun.out.ok.r m3 hm3
              obtain ⟨av, nv, cv, rfl⟩ : ∃ (a : Option Addr) (n c : Nat), bv = .slice a n c := by
                rcases hbv with ⟨h, -⟩ | ⟨_, _, _, h, -⟩
                · exact ⟨_, _, _, h⟩
                · exact ⟨_, _, _, h⟩
              clear hbv
              obtain ⟨nm, hnm⟩ : ∃ x, x = rs[m3].name := ⟨_, rfl⟩
              obtain ⟨st, hst⟩ : ∃ x, x = rs[m3].strict := ⟨_, rfl⟩
              have HNM : Hid (∃ h : m3 < rs.length, nm = rs[m3].name ∧ rs[m3].strict = st) := ⟨hm3, hnm, hst.symm⟩
              simp only [← hnm] at c0
              simp only [← hst] at c1
              generalize rs[m3].rank = rk3 at c2
              generalize rs[m3].head.neg = hg3 at c4
              generalize rs[m3].head.name = hn3 at c5
              clear hnm hst
              have hgrb : gr ≠ b := by omega
              have hm3a : (0 : Int) ≤ (m3 : Int) := by omega
              have hm3b : (m3 : Int) < (rs.length : Int) := by omega
              have R0 : ∀ wx, Own.CB wr B b zs wx → wx.cell? ⟨gr, m3 * 6, none⟩ = some (.string nm) := fun wx hC => hC.cell c0 hgrb
              have R1 : ∀ wx, Own.CB wr B b zs wx → wx.cell? ⟨gr, m3 * 6 + 1, none⟩ = some (.bool st) := fun wx hC => hC.cell c1 hgrb
              have R2 : ∀ wx, Own.CB wr B b zs wx → wx.cell? ⟨gr, m3 * 6 + 2, none⟩ = some (.int .i64 rk3) := fun wx hC => hC.cell c2 hgrb
              have R3 : ∀ wx, Own.CB wr B b zs wx → wx.cell? ⟨gr, m3 * 6 + 3, none⟩ = some (.slice av nv cv) := fun wx hC => hC.cell c3 hgrb
              have R4 : ∀ wx, Own.CB wr B b zs wx → wx.cell? ⟨gr, m3 * 6 + 4, none⟩ = some (.bool hg3) := fun wx hC => hC.cell c4 hgrb
              have R5 : ∀ wx, Own.CB wr B b zs wx → wx.cell? ⟨gr, m3 * 6 + 5, none⟩ = some (.string hn3) := fun wx hC => hC.cell c5 hgrb
              repeat (
                refine' Own.walkR_plain (by kernel_rfl) rfl rfl (fun wx hC hL => ?_) ?_
                rotate_left
                · (have hlw := hC.1.size
                   have hlw1 := Nat.lt_of_lt_of_le lR hlw
                   have hlw2 := Nat.lt_of_lt_of_le hgl hlw
                   simp only [KC wx hC, R0 wx hC, R1 wx hC, R2 wx hC, R3 wx hC, R4 wx hC, R5 wx hC, hlw1, hlw2, hm3a, hm3b, go_sem]; first | done | (go_simp; exact ⟨rfl, rfl⟩))
                simp only [Act.put, List.setIfInBounds_toArray, List.set_cons_zero, List.set_cons_succ])
              refine Own.walkR_rel (by kernel_rfl) rfl rfl (of_decide_eq_true (by kernel_rfl)) (fun wx hC hL => ?_) (fun v hv => ?_)
              · go_simp
                exact Own.boxB hC (by omega) _ _
              obtain ⟨_, _, nb, rfl, hnb1, hnb2, -⟩ := hv
              simp only [Act.put, List.setIfInBounds_toArray, List.set_cons_zero, List.set_cons_succ]
              refine Own.walkR_idle (fun wx hC => only_refl _ _) ?_
              refine fun w7 hC7 hK => ?_
              obtain ⟨nb', e18, -, -, h18⟩ : Own.isBoxB wr.heap.size b #[.string ⟨#[]⟩, .bool false, .int .i64 0, .slice none 0 0, .bool false, .string ⟨#[]⟩] 64 (.pointer (some ⟨nb, 0, none⟩)) w7 := hK.get 18 (by simp [Own.more]) rfl rfl
              injection e18 with e18
              injection e18 with e18
              injection e18 with e18
              subst e18
              obtain ⟨hg7, q7, hs7⟩ := hC7
              have HG7 := hidIt hg7
              have HS7 := hidIt hs7
              have H18 := hidIt h18
              obtain ⟨z0, z1, z2, z3, z4, z5⟩ := bcell6 h18
              have f0 := free_any h18 0
              have f1 := free_any h18 1
              have f2 := free_any h18 2
              have f3 := free_any h18 3
              have f4 := free_any h18 4
              have f5 := free_any h18 5
              have l18 := lt_of_block h18
              clear hK hg7 hs7 h18 KC R0 R1 R2 R3 R4 R5 c0 c1 c2 c3 c4 c5 HCALL k0 k1 k2
              simp only [List.drop_succ_cons, List.drop_zero]
              go_upto_if 137 with (fail)
              have hBb := hrun.out.base_le
              obtain ⟨hnb0, hnb9⟩ : wr.heap.size ≤ nb ∧ B ≤ nb := ⟨hnb1, by omega⟩
              have HN8 := hidIt (set_blk6 (b0 := .string nm) (b1 := .bool st) (b2 := .int .i64 rk3) (b3 := .slice av nv cv) (b4 := .bool hg3) (b5 := .string hn3) H18.out)
              have HG8 := hidIt (only_setCell (only_setCell (only_setCell (only_setCell (only_setCell (only_setCell HG7.out (p := ⟨nb, 0, none⟩) (.inr (by show wr.heap.size ≤ nb; omega)) (.string nm)) (p := ⟨nb, 1, none⟩) (.inr (by show wr.heap.size ≤ nb; omega)) (.bool st)) (p := ⟨nb, 2, none⟩) (.inr (by show wr.heap.size ≤ nb; omega)) (.int .i64 rk3)) (p := ⟨nb, 3, none⟩) (.inr (by show wr.heap.size ≤ nb; omega)) (.slice av nv cv)) (p := ⟨nb, 4, none⟩) (.inr (by show wr.heap.size ≤ nb; omega)) (.bool hg3)) (p := ⟨nb, 5, none⟩) (.inr (by show wr.heap.size ≤ nb; omega)) (.string hn3))
              have HS8 := hidIt ((((((HS7.out.setCell ⟨nb, 0, none⟩ (.string nm) (by show B ≤ nb; omega) hnb2).setCell ⟨nb, 1, none⟩ (.bool st) (by show B ≤ nb; omega) hnb2).setCell ⟨nb, 2, none⟩ (.int .i64 rk3) (by show B ≤ nb; omega) hnb2).setCell ⟨nb, 3, none⟩ (.slice av nv cv) (by show B ≤ nb; omega) hnb2).setCell ⟨nb, 4, none⟩ (.bool hg3) (by show B ≤ nb; omega) hnb2).setCell ⟨nb, 5, none⟩ (.string hn3) (by show B ≤ nb; omega) hnb2)
              clear HG7 HS7 H18 z0 z1 z2 z3 z4 z5 f0 f1 f2 f3 f4 f5 l18
              generalize ((((((w7.setCell ⟨nb, 0, none⟩ (.string nm)).setCell ⟨nb, 1, none⟩ (.bool st)).setCell ⟨nb, 2, none⟩ (.int .i64 rk3)).setCell ⟨nb, 3, none⟩ (.slice av nv cv)).setCell ⟨nb, 4, none⟩ (.bool hg3)).setCell ⟨nb, 5, none⟩ (.string hn3)) = w8 at *
              have HR8 := hidIt (hrun.out.call HS8.out HG8.out)
              clear hrun
              cases st
              · go_wp2_with fail
                obtain ⟨k0, k1, k2⟩ := bcell3 HR8.out.ok.box
                have lR8 := lt_of_block HR8.out.ok.box
                obtain ⟨n0, n1, n2, n3, n4, n5⟩ := bcell6 HN8.out
                have l8 := lt_of_block HN8.out
                have KC : ∀ wx, Own.CB w8 B b zs wx → wx.cell? ⟨w.heap.size + 1, 2, none⟩ = some (.slice aq qs.length cq) := fun wx hC => hC.cell k2 (by omega)
                have N0 : ∀ wx, Own.CB w8 B b zs wx → wx.cell? ⟨nb, 0, none⟩ = some (.string nm) := fun wx hC => hC.cell n0 hnb2
                have HCALL : Hid (∀ wx, Own.CB w8 B b zs wx → Calls Tryz.prog 14 #[.pointer (some ⟨b, 0, none⟩), .int .i64 10] wx fun e w'' => ∃ u, e = .returned u ∧ Own.CB w8 B b zs w'' ∧ Own.GB b wx w'' ∧ Own.relR (Own.rA (Own.isNat 10)) wx u w'') := fun wx hC => Own.callN 10 (by omega) (by omega) hC
                have HLIT : Hid (∀ wx, Own.CB w8 B b zs wx → Calls Tryz.prog 28 #[.pointer (some ⟨b, 0, none⟩), .int .i64 (n : Int)] wx fun e w'' => ∃ u, e = .returned u ∧ Own.CB w8 B b zs w'' ∧ Own.GB b wx w'' ∧ Own.relR (Own.rA (Own.isLtr n)) wx u w'') := fun wx hC => Own.callLit n hn1 hn hC
                haveI : Nonempty (In (Own.CB w8 B b zs)) := ⟨⟨w8, Own.CB.one _ _ _ _ _ HS8.out⟩⟩
                refine Own.wp_region_tail 11 (Own.CB w8 B b zs) (Own.GB b) (Own.relTab [(143, Own.rA (Own.isNat 10)), (146, Own.rA (Own.isLtr n)), (148, Own.rA (Own.isPrB (w.heap.size + 2) b n nm))]) (by kernel_rfl) (by kernel_rfl) (by kernel_rfl) (by kernel_rfl) (by kernel_rfl) (by kernel_rfl) (Own.stableB_cons (Own.isNat_up _ _) (Own.stableB_cons (Own.isLtr_up _ _) (Own.stableB_cons (Own.isPrB_up _ _ _ _) (Own.stableB_nil _ _)))) (Own.CB.start HS8.out) ?_
                simp only [Own.idleTail]
                repeat (
                  refine' Own.walkR_plain (by kernel_rfl) rfl rfl (fun wx hC hL => ?_) ?_
                  rotate_left
                  · (have hlw := hC.1.size
                     have hlw1 := Nat.lt_of_lt_of_le lR8 hlw
                     have hlw2 := Nat.lt_of_lt_of_le l8 hlw
                     simp only [KC wx hC, N0 wx hC, hlw1, hlw2, go_sem]; first | done | (go_simp; exact ⟨rfl, rfl⟩))
                  simp only [Act.put, List.setIfInBounds_toArray, List.set_cons_zero, List.set_cons_succ])
                refine Own.walkR_rel (by kernel_rfl) rfl rfl (of_decide_eq_true (by kernel_rfl)) (fun wx hC hL => ?_) (fun v hv => ?_)
                · go_simp
                  exact HCALL.out wx hC
                obtain ⟨_, _, m9, rfl, hm9⟩ := hv
                simp only [Act.put, List.setIfInBounds_toArray, List.set_cons_zero, List.set_cons_succ]
                repeat (
                  refine' Own.walkR_plain (by kernel_rfl) rfl rfl (fun wx hC hL => ?_) ?_
                  rotate_left
                  · (have hlw := hC.1.size
                     have hlw1 := Nat.lt_of_lt_of_le lR8 hlw
                     have hlw2 := Nat.lt_of_lt_of_le l8 hlw
                     simp only [KC wx hC, N0 wx hC, hlw1, hlw2, go_sem]; first | done | (go_simp; exact ⟨rfl, rfl⟩))
                  simp only [Act.put, List.setIfInBounds_toArray, List.set_cons_zero, List.set_cons_succ])
                refine Own.walkR_rel (by kernel_rfl) rfl rfl (of_decide_eq_true (by kernel_rfl)) (fun wx hC hL => ?_) (fun v hv => ?_)
                · go_simp
                  exact HLIT.out wx hC
                obtain ⟨_, _, lg, lm, rfl, hlm⟩ := hv
                simp only [Act.put, List.setIfInBounds_toArray, List.set_cons_zero, List.set_cons_succ]
                repeat (
                  refine' Own.walkR_plain (by kernel_rfl) rfl rfl (fun wx hC hL => ?_) ?_
                  rotate_left
                  · (have hlw := hC.1.size
                     have hlw1 := Nat.lt_of_lt_of_le lR8 hlw
                     have hlw2 := Nat.lt_of_lt_of_le l8 hlw
                     simp only [KC wx hC, N0 wx hC, hlw1, hlw2, go_sem]; first | done | (go_simp; exact ⟨rfl, rfl⟩))
                  simp only [Act.put, List.setIfInBounds_toArray, List.set_cons_zero, List.set_cons_succ])
                refine Own.walkR_rel (by kernel_rfl) rfl rfl (of_decide_eq_true (by kernel_rfl)) (fun wx hC hL => ?_) (fun v hv => ?_)
                · go_simp
                  exact Own.prB hC (by have := HR8.out.size; omega) hm9 hlm
                obtain ⟨_, _, b48, -, -, -, rfl, -⟩ := hv
                simp only [Act.put, List.setIfInBounds_toArray, List.set_cons_zero, List.set_cons_succ]
                refine Own.walkR_idle (fun wx hC => only_refl _ _) ?_
                refine Own.walkR_idle (fun wx hC => only_refl _ _) ?_
                refine Own.walkR_idle (fun wx hC => only_refl _ _) ?_
                refine fun w9 hC9 hK => ?_
                obtain ⟨nb4, m4, g4, h4, e48, hL48, hne48, hm48, hh48, h48⟩ : Own.isPrB (w.heap.size + 2) b n nm (.slice (some ⟨b48, 0, none⟩) 1 1) w9 := hK.get 148 (by simp [Own.more]) rfl rfl
                injection e48 with e48
                injection e48 with e48
                injection e48 with e48
                subst e48
                obtain ⟨hg9, q9, hs9⟩ := hC9
                have HR9 := hidIt (HR8.out.call hs9 hg9)
                have H48 := hidIt h48
                clear hK hg9 hs9 h48 KC N0 HCALL HLIT k0 k1 k2 n0 n1 n2 n3 n4 n5 HR8 HN8 HS8 HG8
                simp only [List.drop_succ_cons, List.drop_zero]
                have HOB : Hid (∀ gg, (Value.slice aq qs.length cq).ownBlock = some gg → w.heap.size + 2 ≤ gg ∧ gg < w9.heap.size) := owns_blk HR9.out.ok.q
                have hsz9 := HR9.out.size
                refine wpList_append_kb rfl _ _ elemPr rfl (w.heap.size + 2) (.slice aq qs.length cq) qs.length (qs.flatMap encPr) rfl HR9.out.ok.q b48 1 rfl #[.string nm, .int .i64 (m4 : Int), .bool g4, .string (letter h4)] 78 H48.out rfl (one_of (by rfl)) (by omega) (by omega) ?_
                intro g8 c8 w10 hown10 hg10 hbl10
                have HR10 := hidIt (HR9.out.addQ (p := ⟨nm, (m4 : Int), ⟨g4, letter h4⟩⟩) hown10 hg10 hbl10)
                have hb10 := (hg10.block (w.heap.size + 1) (by omega) (fun e => by have := (HOB.out _ e.symm).1; omega)).trans HR9.out.ok.box
                obtain ⟨k0', k1', k2'⟩ := bcell3 hb10
                have f10 := free_any hb10 2
                have l10 := lt_of_block hb10
                clear hown10 hg10 hbl10 hb10 H48
                go_wp2_with fail
                go_roundw
                case rel => exact ⟨r - 1, q9, qs ++ [(⟨nm, (m4 : Int), ⟨g4, letter h4⟩⟩ : Pr)], _, by go_num, by rw [List.length_append]; simp; omega, HR10.out, snoc_all hgq.out ⟨by obtain ⟨h, e1, e2⟩ := HNM.out; exact ⟨m3, h, e1, e2⟩, ⟨by show (0 : Int) ≤ (m4 : Int); omega, by show (m4 : Int) ≤ 9; omega⟩, ⟨h4, hh48, rfl⟩⟩⟩
                case measure => simp [intOf]; omega
              · go_wp2_with fail
                go_roundw
                case rel => exact ⟨r - 1, q7, qs, _, by go_num, by omega, HR8.out, hgq.out⟩
                case measure => simp [intOf]; omega
            · obtain ⟨z0, z1, z2⟩ := bcell3 hrun.out.res
              have f0 := free_any hrun.out.res 0
              have f1 := free_any hrun.out.res 1
              have f2 := free_any hrun.out.res 2
              have lz := lt_of_block hrun.out.res
              have HEND : ∀ u0 u1 u2 : Value, Hid (∃ (v : Value) (bs : Bs) (q : Nat), Value.agg #[.slice ap ps.length cp, .slice ar rs.length cr, .slice aq qs.length cq] = v ∧ BaseOwn (((wr.setCell ⟨w.heap.size, 0, none⟩ u0).setCell ⟨w.heap.size, 1, none⟩ u1).setCell ⟨w.heap.size, 2, none⟩ u2) w.heap.size v bs ∧ GenBs n mp mr bs ∧ SrcAt (((wr.setCell ⟨w.heap.size, 0, none⟩ u0).setCell ⟨w.heap.size, 1, none⟩ u1).setCell ⟨w.heap.size, 2, none⟩ u2) B b zs q ∧ w.grownBy (((wr.setCell ⟨w.heap.size, 0, none⟩ u0).setCell ⟨w.heap.size, 1, none⟩ u1).setCell ⟨w.heap.size, 2, none⟩ u2) (some b)) := fun u0 u1 u2 => by
                have hBb := hrun.out.base_le
                exact ⟨_, ⟨ps, rs, qs⟩, q, rfl, BsIn.own (((hrun.out.ok.set (by omega)).set (by omega)).set (by omega)) (by omega), ⟨hgen.out, honce.out, hgr.out, hgq.out, hpsl, hrsl, by show qs.length ≤ 2; omega⟩,
                  ((hrun.out.src.setCell ⟨w.heap.size, 0, none⟩ u0 (by show B ≤ w.heap.size; omega) (by show w.heap.size ≠ b; omega)).setCell ⟨w.heap.size, 1, none⟩ u1 (by show B ≤ w.heap.size; omega) (by show w.heap.size ≠ b; omega)).setCell ⟨w.heap.size, 2, none⟩ u2 (by show B ≤ w.heap.size; omega) (by show w.heap.size ≠ b; omega),
                  only_setCell (only_setCell (only_setCell hrun.out.gr (p := ⟨w.heap.size, 0, none⟩) (.inr (Nat.le_refl _)) u0) (p := ⟨w.heap.size, 1, none⟩) (.inr (Nat.le_refl _)) u1) (p := ⟨w.heap.size, 2, none⟩) (.inr (Nat.le_refl _)) u2⟩
              clear hrun hq1 hq2 hblt
              by_cases hpos : 0 < r
              · have hrlI : ¬ ((0 : Int) < (rs.length : Int)) := by omega
                have hposI : (0 : Int) < (r : Int) := by omega
                clear hgo
                go_wp2_with fail
                refine bodyPost_ret (v := .agg #[.slice ap ps.length cp, .slice ar rs.length cr, .slice aq qs.length cq]) (by simp [results, Tryz.results12, go_sem, z0, z1, z2, lz]) rfl ?_
                obtain ⟨v, bs, q', rfl, g1, g2, g3, g4⟩ := (HEND (.slice ap ps.length cp) (.slice ar rs.length cr) (.slice aq qs.length cq)).out
                exact ⟨_, rfl, bs, g1, g2, ⟨q', g3⟩, g4⟩
              · have hposI : ¬ ((0 : Int) < (r : Int)) := by omega
                clear hgo
                go_wp2_with fail
                refine bodyPost_ret (v := .agg #[.slice ap ps.length cp, .slice ar rs.length cr, .slice aq qs.length cq]) (by simp [results, Tryz.results12, go_sem, z0, z1, z2, lz]) rfl ?_
                obtain ⟨v, bs, q', rfl, g1, g2, g3, g4⟩ := (HEND (.slice ap ps.length cp) (.slice ar rs.length cr) (.slice aq qs.length cq)).out
                exact ⟨_, rfl, bs, g1, g2, ⟨q', g3⟩, g4⟩
end Go.Proofs.YtfcoplplkbeljaaGreatDoor
