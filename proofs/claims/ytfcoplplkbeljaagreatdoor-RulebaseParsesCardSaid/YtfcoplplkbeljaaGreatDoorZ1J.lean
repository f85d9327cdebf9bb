/- The reader's rules. A rule base that a call builds: a box of three rows that the call owns. -/
import Derived.Test.YtfcoplplkbeljaaGreatDoorZ1I

namespace Go.Proofs.YtfcoplplkbeljaaGreatDoor
set_option linter.unusedVariables false
set_option linter.unusedSimpArgs false
open Go Go.RowKit

theorem owns_slice {w : World} {B : Nat} {e : TypeId} {k : Nat} {v : Value} {n : Nat} {xs : List Value} (h : w.ownsRow B e k v (n + 1) xs) : ∃ g cap : Nat, v = .slice (some ⟨g, 0, none⟩) (n + 1) cap ∧ B ≤ g := by
  rcases h.2 with ⟨-, h0⟩ | ⟨g, cap, cur, hv, hB, -⟩
  · omega
  · exact ⟨g, cap, hv, hB⟩
theorem step_append_sl {w : World} {ops : Array Oper} {o : Oper} {a : Act} {K : Act → World → Prop} {Q : Exit → Act → World → Prop} {E : Prop} (hgd : o.guard = none) (s x : Operand) {T e : TypeId} {k by' : Nat} (hE : ElemOf T e k by')
    (ho : o.op = .call { callee := .builtin .append, args := #[s, x], argTypes := #[T, T] }) (B : Nat) (v : Value) (n : Nat) (xs : List Value) (hs : a.eval s = v) (hown : w.ownsRow B e k v n xs)
    (m c1 : Nat) (hx : a.eval x = .slice (some ⟨m, 0, none⟩) 1 c1) (cs : Array Value) (tm : TypeId) (hm : w.heap[m]? = some (.cells cs tm (0, 0))) (hcs : cs.size = k) (hone : ∀ u ∈ cs.toList, u.oneCell' = true) (hlen : n ≤ 1000000) (hB : B ≤ w.heap.size)
    (h : ∀ g cap w', w'.ownsRow B e k (.slice (some ⟨g, 0, none⟩) (n + 1) cap) (n + 1) (xs ++ cs.toList) → w.grownBy w' v.ownBlock → B ≤ g → K (a.put o.dst (.slice (some ⟨g, 0, none⟩) (n + 1) cap)) w') :
    if Region.wanted o (yielded ops a.tmps) = true then Oper.wp Tryz.prog o a w K Q else E :=
  step_append_one hgd s x hE ho B v n xs hs hown m c1 hx cs tm hm hcs hone hlen hB fun v' w' h1 h2 _ => by
    obtain ⟨g, cap, rfl, hg⟩ := owns_slice h1
    exact h g cap w' h1 h2 hg

theorem infoLt : (Tryz.prog.info? 46).map (fun i => (i.zero, i.size, i.bytes)) = some (some (.agg #[.bool false, .string ⟨#[]⟩]), 2, 24) := by kernel_rfl
theorem elemLt : ElemOf 44 46 2 24 := elem_of Tryz.underlying44 infoLt rfl (by decide) (by decide)
def encLt (x : Lt) : List Value := [.bool x.neg, .string x.name]
def OwnLt (w : World) (B : Nat) (v : Value) (xs : List Lt) : Prop := w.ownsRow B 46 2 v xs.length (xs.flatMap encLt)
theorem OwnLt.nil (w : World) (B : Nat) : OwnLt w B (.slice none 0 0) [] := World.ownsRow_nil w B _ _
theorem OwnLt.body {w : World} {B : Nat} {v : Value} {xs : List Lt} (h : OwnLt w B v xs) : BodyIn w (fun k => B ≤ k) v xs := by
  rcases h.2 with ⟨rfl, h0⟩ | ⟨g, cap, cur, hv, hB, hg, hnc, hcm, -, -⟩
  · exact .inl ⟨rfl, List.eq_nil_of_length_eq_zero h0⟩
  · refine .inr ⟨g, 0, cap, hv, hnc, hcm, lt_of_block hg, hB, fun i hi => ?_⟩
    have hc := fun j (hj : j < 2) (u : Value) (hu : (encLt xs[i])[j]? = some u) => owns_cell h hv (i * 2 + j) u (by rw [flat_get encLt 2 (fun _ => rfl) xs i j hi hj]; exact hu)
    rw [Nat.zero_add]
    exact ⟨hc 0 (by decide) _ rfl, hc 1 (by decide) _ rfl⟩
theorem OwnLt.blk {w : World} {B : Nat} {v : Value} {xs : List Lt} (h : OwnLt w B v xs) : ∀ g, v.ownBlock = some g → B ≤ g ∧ g < w.heap.size := owns_blk h
theorem OwnLt.kept {w w' : World} {B : Nat} {v : Value} {xs : List Lt} {row : Option Nat} (h : OwnLt w B v xs) (hg : w.grownBy w' row) (hr : ∀ g, row = some g → g < B) : OwnLt w' B v xs :=
  owns_kept h fun g e => hg.block g (h.blk g e).2 (fun e2 => by have := hr g e2.symm; have := (h.blk g e).1; omega)
theorem OwnLt.snoc {w : World} {B n : Nat} {v : Value} {xs : List Lt} {x : Lt} (hn : n = xs.length) (h : w.ownsRow B 46 2 v (n + 1) (xs.flatMap encLt ++ [.bool x.neg, .string x.name])) : OwnLt w B v (xs ++ [x]) := by
  subst hn
  unfold OwnLt
  rw [List.flatMap_append, List.length_append]
  simpa [encLt] using h
theorem OwnLt.set {w : World} {B : Nat} {v : Value} {xs : List Lt} {b i : Nat} {u : Value} (h : OwnLt w B v xs) (hb : b < B) : OwnLt (w.setCell ⟨b, i, none⟩ u) B v xs :=
  h.kept (only_setCell (only_refl w (some b)) (p := ⟨b, i, none⟩) (.inl rfl) u) (fun g e => by injection e with e; omega)
theorem only_up {w a a' : World} {R : Nat} {row : Option Nat} (h : w.grownBy a (some R)) (hg : a.grownBy a' row) (hr : ∀ g, row = some g → w.heap.size ≤ g) : w.grownBy a' (some R) :=
  ⟨hg.os.trans h.os, hg.tape.trans h.tape, hg.output.trans h.output, Nat.le_trans h.size hg.size, fun k hk hne => (hg.block k (Nat.lt_of_lt_of_le hk h.size) (fun e => by have := hr k e.symm; omega)).trans (h.block k hk hne)⟩
theorem hone_lt (a : Bool) (b : ByteArray) : ∀ u ∈ (#[.bool a, .string b] : Array Value).toList, u.oneCell' = true := by
  intro u hu
  simp only [List.mem_cons, List.not_mem_nil, or_false] at hu
  rcases hu with rfl | rfl <;> rfl

/-- How many words stand ahead. -/
def aheadN (R : Nat) (w : World) : Nat := match w.cell? ⟨R, 0, none⟩ with
  | some (.slice _ n _) => n
  | _ => 0
theorem RdAt.ahead {w : World} {L R : Nat} {r : Rd} (h : RdAt w L R r) : aheadN R w = r.ws.length := by
  obtain ⟨a, c, h1, -⟩ := h.look
  unfold aheadN
  rw [h1]

def gW (x : ByteArray) : Lt := litW (trimT x comT)
def fW (x : ByteArray) : Bool := !litOk (trimT x comT)

set_option maxRecDepth 100000 in
set_option maxHeartbeats 4000000 in
theorem rrule_any (B L R : Nat) (st : Bool) (r : Rd) (w : World) (h : RdAt w L R r) (hw : WsOk r.ws) (hn : r.ws.length ≤ 5000) (hE : EnvUp B w) (hB : B ≤ R) :
    Calls Tryz.prog 94 #[.pointer (some ⟨R, 0, none⟩), .bool st] w fun e w' => ∃ (a : Option Addr) (n c : Nat), e = .returned (.agg #[.string (rdRule st r).1.name, .bool (rdRule st r).1.strict, .int .i64 (rdRule st r).1.rank, .slice a n c, .bool (rdRule st r).1.head.neg, .string (rdRule st r).1.head.name]) ∧
      BodyIn w' (fun k => w.heap.size ≤ k) (.slice a n c) (rdRule st r).1.body ∧ RdAt w' L R (rdRule st r).2 ∧ w.grownBy w' (some R) := by
  have hL := h.1
  have hR := h.2.1
  have HA : Hid (rdRule st r = (⟨(rdName r colT).1, st, (rdRule1 st r).1, (rdRule2 st r).1, (rdLit (rdWord (rdRule2 st r).2) nilT).1⟩, (rdLit (rdWord (rdRule2 st r).2) nilT).2)) := by show _ = _; rfl
  have HA2 : Hid (rdRule2 st r = rdBody ((rdRule1 st r).2.ws.length - 2) (rdRule1 st r).2) := by show _ = _; rfl
  have HA1 : Hid (rdRule1 st r = if st then (0, (rdName r colT).2) else rdRank (rdName r colT).2 colT) := by show _ = _; rfl
  have hw1 : WsOk (rdName r colT).2.ws := hw.tail
  have hn1 : (rdName r colT).2.ws.length ≤ 5000 := by show r.ws.tail.length ≤ 5000; rw [List.length_tail]; omega
  have hw2 : WsOk (rdRule1 st r).2.ws := by
    rw [HA1.out]
    cases st
    · exact hw1.tail
    · exact hw1
  have hn2 : (rdRule1 st r).2.ws.length ≤ 5000 := by
    rw [HA1.out]
    cases st
    · show (rdName r colT).2.ws.tail.length ≤ 5000
      rw [List.length_tail]; omega
    · exact hn1
  have HC1 : Hid (∀ wx : World, RdAt wx L R r → Calls Tryz.prog 134 #[.pointer (some ⟨R, 0, none⟩), .string ⟨#[58]⟩] wx fun e w' => e = .returned (.string (rdName r colT).1) ∧ RdAt w' L R (rdName r colT).2 ∧ wx.grownBy w' (some R)) := fun wx hx => rname_any L R r colT wx hx hw
  have HC2 : Hid (st = false → ∀ wx : World, RdAt wx L R (rdName r colT).2 → EnvUp B wx → Calls Tryz.prog 135 #[.pointer (some ⟨R, 0, none⟩), .string ⟨#[58]⟩] wx fun e w' => e = .returned (.int .i64 (rdRule1 st r).1) ∧ RdAt w' L R (rdRule1 st r).2 ∧ wx.grownBy w' (some R)) := fun hs wx hx hE => by
    have e := HA1.out
    rw [if_neg (by rw [hs]; decide)] at e
    rw [e]
    exact rrank_any B L R (rdName r colT).2 colT wx hx hw1 hE hB
  have HC2n : Hid (st = true → rdRule1 st r = (0, (rdName r colT).2)) := fun hs => by rw [HA1.out, if_pos hs]
  generalize rdRule st r = A at *
  generalize hA2 : rdRule2 st r = A2 at *
  have HC3 : Hid (WsOk A2.2.ws → ∀ wx : World, RdAt wx L R (rdWord A2.2) → Calls Tryz.prog 136 #[.pointer (some ⟨R, 0, none⟩), .string ⟨#[]⟩] wx fun e w' => e = .returned (.agg #[.bool (rdLit (rdWord A2.2) nilT).1.neg, .string (rdLit (rdWord A2.2) nilT).1.name]) ∧ RdAt w' L R (rdLit (rdWord A2.2) nilT).2 ∧ wx.grownBy w' (some R)) := fun hx wx hx2 => rlit_any L R (rdWord A2.2) nilT wx hx2 hx.tail
  clear hA2
  generalize rdLit (rdWord A2.2) nilT = A3 at *
  obtain ⟨⟨yn, ys⟩, r4⟩ := A3
  generalize rdRule1 st r = A1 at *
  generalize rdName r colT = A0 at *
  obtain ⟨nm, r1⟩ := A0
  obtain ⟨rank, r2⟩ := A1
  obtain ⟨bd, r3⟩ := A2
  simp only at HC1 HC2 HC2n HC3 HA HA2 hw2 hn2
  clear hw1 hn1 HA1
  have HBD : Hid (bd = (r2.ws.take (r2.ws.length - 2)).map gW) := by have := (Prod.mk.inj HA2.out).1; exact this
  have HR3E : Hid (r3 = ⟨r2.ws.drop (r2.ws.length - 2), r2.bad || (r2.ws.take (r2.ws.length - 2)).any fW⟩) := by have := (Prod.mk.inj HA2.out).2; exact this
  clear HA2
  have HW2 := hidIt hw2
  clear hw2
  have H := hidIt (h.alloc (.cells #[.string ⟨#[]⟩, .bool false, .int .i64 0, .slice none 0 0, .bool false, .string ⟨#[]⟩] 64))
  have HEn := hidIt (hE.kept (only_alloc (only_refl w none) (.cells #[.string ⟨#[]⟩, .bool false, .int .i64 0, .slice none 0 0, .bool false, .string ⟨#[]⟩] 64)) (fun g e => by cases e))
  have HG := hidIt (only_alloc (only_refl w (some R)) (.cells #[.string ⟨#[]⟩, .bool false, .int .i64 0, .slice none 0 0, .bool false, .string ⟨#[]⟩] 64))
  have HK := hidIt (heap_alloc_new w (.cells #[.string ⟨#[]⟩, .bool false, .int .i64 0, .slice none 0 0, .bool false, .string ⟨#[]⟩] 64))
  have hk0 : w.heap.size ≠ R := by omega
  clear h hw hE
  go_enter Tryz.func94, Tryz.ntmps94
  go_wp2_with fail
  generalize (w.alloc (.cells #[.string ⟨#[]⟩, .bool false, .int .i64 0, .slice none 0 0, .bool false, .string ⟨#[]⟩] 64)) = w0 at *
  refine (HC1.out _ H.out).mono ?_
  rintro e w2 ⟨rfl, hr2, hg2⟩
  have HR2 := hidIt hr2
  have HG2 := hidIt (only_trans HG.out hg2)
  have HE2 := hidIt (HEn.out.kept hg2 (fun g e => by injection e with e; omega))
  have HK2 := hidIt (keepB HK.out hg2 hk0)
  clear hr2 hg2 H HG HEn HK
  have HP3 := hidIt (heap_alloc_new w2 (.cells #[.string nm, .bool st, .int .i64 0, .slice none 0 0, .bool false, .string ⟨#[]⟩] 64))
  have HR3 := hidIt (HR2.out.alloc (.cells #[.string nm, .bool st, .int .i64 0, .slice none 0 0, .bool false, .string ⟨#[]⟩] 64))
  have HE3 := hidIt (HE2.out.kept (only_alloc (only_refl w2 none) (.cells #[.string nm, .bool st, .int .i64 0, .slice none 0 0, .bool false, .string ⟨#[]⟩] 64)) (fun g e => by cases e))
  have HG3 := hidIt (only_alloc HG2.out (.cells #[.string nm, .bool st, .int .i64 0, .slice none 0 0, .bool false, .string ⟨#[]⟩] 64))
  have HK3 := hidIt (blk_kept2 HK2.out (bgrow w2 (.cells #[.string nm, .bool st, .int .i64 0, .slice none 0 0, .bool false, .string ⟨#[]⟩] 64)))
  have hww : w.heap.size < w2.heap.size := lt_of_block HK2.out
  have hk1 : w2.heap.size ≠ R := by omega
  have hk2 : w.heap.size ≠ w2.heap.size := by omega
  clear HR2 HE2 HG2 HK2
  cases st
  case false =>
    have HC2' := hidIt (HC2.out rfl)
    clear HC2 HC2n
    go_wp2_with fail
    generalize (w2.alloc (.cells #[.string nm, .bool false, .int .i64 0, .slice none 0 0, .bool false, .string ⟨#[]⟩] 64)) = w3 at *
    refine (HC2'.out _ HR3.out HE3.out).mono ?_
    rintro e w4 ⟨rfl, hr4, hg4⟩
    have hp4 := keepB HP3.out hg4 hk1
    have pf2 := free_any hp4 2
    obtain ⟨p0, p1, p2, p3, p4, p5⟩ := bcell6 hp4
    have HRL := hidIt (RdAt.set L R (b := w2.heap.size) (i := 2) (u := .int .i64 rank) hr4 (by omega))
    have HGL := hidIt (only_self (only_trans HG3.out hg4) (b := w2.heap.size) (by omega) 2 (.int .i64 rank))
    have HEL := hidIt ((HE3.out.kept hg4 (fun g e => by injection e with e; omega)).kept (only_setCell (only_refl w4 (some w2.heap.size)) (p := ⟨w2.heap.size, 2, none⟩) (.inl rfl) (.int .i64 rank)) (fun g e => by injection e with e; omega))
    have HKL := hidIt (keepS (p := ⟨w2.heap.size, 2, none⟩) (u := .int .i64 rank) (keepB HK3.out hg4 hk0) hk2)
    have HPL : Hid ((w4.setCell ⟨w2.heap.size, 2, none⟩ (.int .i64 rank)).heap[w2.heap.size]? = some (.cells #[.string nm, .bool false, .int .i64 rank, .slice none 0 0, .bool false, .string ⟨#[]⟩] 64 (0, 0))) := hidIt (setB (.int .i64 rank) hp4)
    have hl4 := lt_of_block hp4
    clear hr4 hg4 hp4 HR3 HE3 HG3 HK3 HP3
    go_wp2_with fail
    clear p0 p1 p2 p3 p4 p5 pf2 hl4
    generalize (w4.setCell ⟨w2.heap.size, 2, none⟩ (.int .i64 rank)) = wL at *
    generalize w2.heap.size = q at *
    have hqL : q < wL.heap.size := lt_of_block HPL.out
    have hnm : r2.ws.length - 2 ≤ 5000 := by omega
    go_loopw [] (fun wr => ∃ (j : Nat) (a : Option Addr) (c : Nat), j ≤ r2.ws.length - 2 ∧ Hid (RdAt wr L R ⟨r2.ws.drop j, r2.bad || (r2.ws.take j).any fW⟩) ∧ Hid (EnvUp B wr) ∧ Hid (w.grownBy wr (some R)) ∧ Hid (wr.heap[w.heap.size]? = some (.cells #[.string ⟨#[]⟩, .bool false, .int .i64 0, .slice none 0 0, .bool false, .string ⟨#[]⟩] 64 (0, 0))) ∧
      Hid (wr.heap[q]? = some (.cells #[.string nm, .bool false, .int .i64 rank, .slice a j c, .bool false, .string ⟨#[]⟩] 64 (0, 0))) ∧ Hid (OwnLt wr (q + 1) (.slice a j c) ((r2.ws.take j).map gW))) (fun wr => aheadN R wr)
    case atStart => exact ⟨0, none, 0, Nat.zero_le _, by show RdAt _ _ _ _; simpa using HRL.out, HEL.out, HGL.out, HKL.out, HPL.out, OwnLt.nil _ _⟩
    case round =>
      clear HRL HEL HGL HKL HPL hqL
      obtain ⟨j, a, c, hj, HRr, HEr, HGr, HKr, HPr, HOr⟩ := hrel
      obtain ⟨la, lc, c0, -⟩ := HRr.out.look
      obtain ⟨p0, p1, p2, p3, p4, p5⟩ := bcell6 HPr.out
      have hqr := lt_of_block HPr.out
      have hRr := HRr.out.lt
      have hlen : (r2.ws.drop j).length = r2.ws.length - j := by rw [List.length_drop]
      have HLN := hidIt hlen
      simp only at c0
      rw [hlen] at c0
      by_cases hlt : 2 < r2.ws.length - j
      · have hltI : (2 : Int) < ((r2.ws.length - j : Nat) : Int) := by omega
        have hj1 : j < r2.ws.length := by omega
        have HHD : Hid (hdW (r2.ws.drop j) = r2.ws[j]) := by show _ = _; rw [List.drop_eq_getElem_cons hj1]; rfl
        have HTL : Hid ((r2.ws.drop j).tail = r2.ws.drop (j + 1)) := by show _ = _; rw [List.drop_eq_getElem_cons hj1]; rfl
        have HTK : Hid (r2.ws.take (j + 1) = r2.ws.take j ++ [r2.ws[j]]) := List.take_succ_eq_append_getElem hj1
        have HCL : Hid (∀ wx : World, RdAt wx L R ⟨r2.ws.drop j, r2.bad || (r2.ws.take j).any fW⟩ → Calls Tryz.prog 136 #[.pointer (some ⟨R, 0, none⟩), .string ⟨#[44]⟩] wx fun e w' => e = .returned (.agg #[.bool (gW r2.ws[j]).neg, .string (gW r2.ws[j]).name]) ∧ RdAt w' L R ⟨r2.ws.drop (j + 1), r2.bad || (r2.ws.take (j + 1)).any fW⟩ ∧ wx.grownBy w' (some R)) := fun wx hx => by
          have := rlit_any L R ⟨r2.ws.drop j, r2.bad || (r2.ws.take j).any fW⟩ comT wx hx (fun x hx => HW2.out x (List.mem_of_mem_drop hx))
          have e : rdLit ⟨r2.ws.drop j, r2.bad || (r2.ws.take j).any fW⟩ comT = (gW r2.ws[j], ⟨r2.ws.drop (j + 1), r2.bad || (r2.ws.take (j + 1)).any fW⟩) := by
            unfold rdLit gW
            simp only
            rw [HHD.out, HTL.out, HTK.out, List.any_append, Bool.or_assoc]
            simp [fW]
          rw [e] at this
          exact this
        clear HHD HTL
        have htl : (List.map gW (r2.ws.take j)).length = j := by rw [List.length_map, List.length_take]; omega
        have HML : Hid ((r2.ws.take (j + 1)).map gW = (r2.ws.take j).map gW ++ [gW r2.ws[j]]) := by show _ = _; rw [HTK.out, List.map_append]; rfl
        clear HTK
        generalize gW r2.ws[j] = y at *
        obtain ⟨yn', ys'⟩ := y
        simp only at HCL
        have hwlt : w.heap.size < wr.heap.size := lt_of_block HKr.out
        have hsz : w.heap.size ≤ wr.heap.size := HGr.out.size
        have hLr := HRr.out.1
        go_wp2_with fail
        have HRd : Hid (RdAt wr.drew L R ⟨r2.ws.drop j, r2.bad || (r2.ws.take j).any fW⟩) := hidIt (HRr.out.go (Below.refl _ _).drew)
        have HPd := hidIt (blk_kept2 HPr.out (Below.refl _ _).drew)
        have HOd := hidIt (HOr.out.kept (only_of_below (Below.refl wr.heap.size wr).drew none) (fun g e => by cases e))
        clear p0 p1 p2 p4 p5 c0
        go_region_law (first
          | ((refine step_append_sl (by rfl) (.tmp 22) (.tmp 25) elemLt (by rfl) (q + 1) (.slice a j c) j _ (by rfl) (World.ownsRow.alloc (by have := HOd.out.kept hg2 (fun g e => by injection e with e; omega); unfold OwnLt at this; rw [htl] at this; exact this) _) _ 1 (by rfl) #[.bool yn', .string ys'] _ (heap_alloc_new w2 _) rfl (hone_lt _ _) (by omega) (by have := hg2.size; simp at *; omega) ?_); intro g5 c5 w5 hown5 hg5 hq5; have hp5 := (hg5.block q (by have := lt_of_block (keepB HPd.out hg2 hk1); simp; omega) (fun e => by have := (HOr.out.blk q e.symm).1; omega)).trans (blk_kept2 (keepB HPd.out hg2 hk1) (bgrow w2 _)); have x5 := (bcell6 hp5).2.2.2.1; have y5 := free_any hp5 3; have l5 := lt_of_block hp5)
          | (go_simp; go_at_call 136; refine (HCL.out _ HRd.out).mono ?_; rintro e w2 ⟨rfl, hr2, hg2⟩; have p3' := (bcell6 (keepB HPd.out hg2 hk1)).2.2.2.1; have lp2 := lt_of_block (keepB HPd.out hg2 hk1)))
        all_goals
          have hown := fun gg (e : (Value.slice a j c).ownBlock = some gg) => (HOr.out.blk gg e).1
          have hr5 := (hr2.alloc (.cells #[.bool yn', .string ys'] 46)).kept hg5 (fun gg e => by have := hown gg e; omega)
          have HR6 := hidIt (RdAt.set L R (b := q) (i := 3) (u := .slice (some ⟨g5, 0, none⟩) (j + 1) c5) hr5 (by omega))
          have hE5 := (((HEr.out.kept (only_of_below (Below.refl wr.heap.size wr).drew none) (fun g e => by cases e)).kept hg2 (fun g e => by injection e with e; omega)).kept (only_alloc (only_refl w2 none) (.cells #[.bool yn', .string ys'] 46)) (fun g e => by cases e)).kept hg5 (fun gg e => by have := hown gg e; omega)
          have HE6 := hidIt (hE5.kept (only_setCell (only_refl w5 (some q)) (p := ⟨q, 3, none⟩) (.inl rfl) (.slice (some ⟨g5, 0, none⟩) (j + 1) c5)) (fun g e => by injection e with e; omega))
          have hG5 := only_up (only_alloc (only_trans (only_trans HGr.out (only_of_below (Below.refl wr.heap.size wr).drew _)) hg2) (.cells #[.bool yn', .string ys'] 46)) hg5 (fun gg e => by have := hown gg e; omega)
          have HG6 := hidIt (only_self hG5 (b := q) (by omega) 3 (.slice (some ⟨g5, 0, none⟩) (j + 1) c5))
          have hK2 := blk_kept2 (keepB (blk_kept2 HKr.out (Below.refl _ _).drew) hg2 hk0) (bgrow w2 (.cells #[.bool yn', .string ys'] 46))
          have hK5 := (hg5.block w.heap.size (lt_of_block hK2) (fun e => by have := hown _ e.symm; omega)).trans hK2
          have HK6 := hidIt (keepS (p := ⟨q, 3, none⟩) (u := .slice (some ⟨g5, 0, none⟩) (j + 1) c5) hK5 hk2)
          have HP6 : Hid ((w5.setCell ⟨q, 3, none⟩ (.slice (some ⟨g5, 0, none⟩) (j + 1) c5)).heap[q]? = some (.cells #[.string nm, .bool false, .int .i64 rank, .slice (some ⟨g5, 0, none⟩) (j + 1) c5, .bool false, .string ⟨#[]⟩] 64 (0, 0))) := hidIt (setB (.slice (some ⟨g5, 0, none⟩) (j + 1) c5) hp5)
          have ho5 : OwnLt w5 (q + 1) (.slice (some ⟨g5, 0, none⟩) (j + 1) c5) ((r2.ws.take (j + 1)).map gW) := by rw [HML.out]; exact OwnLt.snoc htl.symm hown5
          have HO6 := hidIt (OwnLt.set (b := q) (i := 3) (u := .slice (some ⟨g5, 0, none⟩) (j + 1) c5) ho5 (by omega))
          clear hown hr5 hE5 hG5 hK2 hK5 ho5 hown5 hg5 hp5 hr2 hg2 hq5 p3' lp2 p3
          go_wp2_with fail
          go_roundw
          case rel => exact ⟨j + 1, some ⟨g5, 0, none⟩, c5, by omega, HR6.out, HE6.out, HG6.out, HK6.out, HP6.out, HO6.out⟩
          case measure =>
            rw [HR6.out.ahead, HRr.out.ahead]
            simp only [List.length_drop]
            omega
      · obtain rfl : j = r2.ws.length - 2 := by omega
        have hltI : ¬ (2 : Int) < ((r2.ws.length - (r2.ws.length - 2) : Nat) : Int) := by omega
        have HRw : Hid (RdAt wr L R r3) := by show RdAt _ _ _ _; rw [HR3E.out]; exact HRr.out
        have HOw : Hid (OwnLt wr (q + 1) (.slice a ((r2.ws.length - 2 : Nat)) c) bd) := by show OwnLt _ _ _ _; rw [HBD.out]; exact HOr.out
        have HW3 : Hid (WsOk r3.ws) := by show WsOk _; rw [HR3E.out]; exact fun x hx => HW2.out x (List.mem_of_mem_drop hx)
        have HN := hidIt (HC3.out HW3.out)
        have hsz : w.heap.size ≤ wr.heap.size := HGr.out.size
        clear HRr HOr HC3 HR3E HBD HLN
        generalize r2.ws.length - 2 = nb at *
        go_wp2_with fail
        clear p0 p1 p2 p3 p4 p5 c0
        refine (word_any L R r3 _ HRw.out).mono ?_
        rintro e w6 ⟨rfl, hr6, hg6⟩
        have HR6 := hidIt hr6
        have HG6 := hidIt (only_trans HGr.out hg6)
        have HK6 := hidIt (keepB HKr.out hg6 hk0)
        have HP6 := hidIt (keepB HPr.out hg6 hk1)
        have HO6 := hidIt (HOw.out.kept hg6 (fun g e => by injection e with e; omega))
        clear hr6 hg6 HRw HGr HKr HPr HOw
        go_wp2_with fail
        refine (HN.out _ HR6.out).mono ?_
        rintro e w7 ⟨rfl, hr7, hg7⟩
        have hp7 := keepB HP6.out hg7 hk1
        have hk7 := keepB HK6.out hg7 hk0
        have HR7 := hidIt hr7
        have HG7 := hidIt (only_trans HG6.out hg7)
        have HO7 := hidIt (HO6.out.kept hg7 (fun g e => by injection e with e; omega))
        clear hr7 hg7 HR6 HG6 HK6 HP6 HO6
        obtain ⟨p0, p1, p2, p3, p4, p5⟩ := bcell6 hp7
        obtain ⟨z0, z1, z2, z3, z4, z5⟩ := bcell6 hk7
        have pf4 := free_any hp7 4
        have pf5 := free_any hp7 5
        have zf0 := free_any hk7 0
        have zf1 := free_any hk7 1
        have zf2 := free_any hk7 2
        have zf3 := free_any hk7 3
        have zf4 := free_any hk7 4
        have zf5 := free_any hk7 5
        have hl4 := lt_of_block hp7
        have hl0 := lt_of_block hk7
        clear hp7 hk7 hqr hRr
        go_wp2_with fail
        refine bodyPost_ret (v := .agg #[.string nm, .bool false, .int .i64 rank, .slice a nb c, .bool yn, .string ys]) (by simp [results, Tryz.results94, go_sem, z0, z1, z2, z3, z4, z5, hk2, p0, p1, p2, p3, p4, p5, hl4, hl0]) rfl ?_
        rw [HA.out]
        refine ⟨a, nb, c, rfl, ?_, ?_, ?_⟩
        · refine OwnLt.body (B := q + 1) ?_ |>.mono (fun k hk => by omega)
          repeat refine OwnLt.set ?_ (by omega)
          exact HO7.out
        · repeat refine RdAt.set L R ?_ (by omega)
          exact HR7.out
        · repeat refine only_self ?_ (by omega) _ _
          exact HG7.out
  case true =>
    obtain ⟨rfl, rfl⟩ := Prod.mk.inj (HC2n.out rfl)
    clear HC2 HC2n
    go_wp2_with fail
    have HRL := HR3
    have HGL := HG3
    have HEL := HE3
    have HKL := HK3
    have HPL := HP3
    clear HR3 HE3 HG3 HK3 HP3
    generalize (w2.alloc (.cells #[.string nm, .bool true, .int .i64 0, .slice none 0 0, .bool false, .string ⟨#[]⟩] 64)) = wL at *
    generalize w2.heap.size = q at *
    have hqL : q < wL.heap.size := lt_of_block HPL.out
    have hnm : r2.ws.length - 2 ≤ 5000 := by omega
    go_loopw [] (fun wr => ∃ (j : Nat) (a : Option Addr) (c : Nat), j ≤ r2.ws.length - 2 ∧ Hid (RdAt wr L R ⟨r2.ws.drop j, r2.bad || (r2.ws.take j).any fW⟩) ∧ Hid (EnvUp B wr) ∧ Hid (w.grownBy wr (some R)) ∧ Hid (wr.heap[w.heap.size]? = some (.cells #[.string ⟨#[]⟩, .bool false, .int .i64 0, .slice none 0 0, .bool false, .string ⟨#[]⟩] 64 (0, 0))) ∧
      Hid (wr.heap[q]? = some (.cells #[.string nm, .bool true, .int .i64 0, .slice a j c, .bool false, .string ⟨#[]⟩] 64 (0, 0))) ∧ Hid (OwnLt wr (q + 1) (.slice a j c) ((r2.ws.take j).map gW))) (fun wr => aheadN R wr)
    case atStart => exact ⟨0, none, 0, Nat.zero_le _, by show RdAt _ _ _ _; simpa using HRL.out, HEL.out, HGL.out, HKL.out, HPL.out, OwnLt.nil _ _⟩
    case round =>
      clear HRL HEL HGL HKL HPL hqL
      obtain ⟨j, a, c, hj, HRr, HEr, HGr, HKr, HPr, HOr⟩ := hrel
      obtain ⟨la, lc, c0, -⟩ := HRr.out.look
      obtain ⟨p0, p1, p2, p3, p4, p5⟩ := bcell6 HPr.out
      have hqr := lt_of_block HPr.out
      have hRr := HRr.out.lt
      have hlen : (r2.ws.drop j).length = r2.ws.length - j := by rw [List.length_drop]
      have HLN := hidIt hlen
      simp only at c0
      rw [hlen] at c0
      by_cases hlt : 2 < r2.ws.length - j
      · have hltI : (2 : Int) < ((r2.ws.length - j : Nat) : Int) := by omega
        have hj1 : j < r2.ws.length := by omega
        have HHD : Hid (hdW (r2.ws.drop j) = r2.ws[j]) := by show _ = _; rw [List.drop_eq_getElem_cons hj1]; rfl
        have HTL : Hid ((r2.ws.drop j).tail = r2.ws.drop (j + 1)) := by show _ = _; rw [List.drop_eq_getElem_cons hj1]; rfl
        have HTK : Hid (r2.ws.take (j + 1) = r2.ws.take j ++ [r2.ws[j]]) := List.take_succ_eq_append_getElem hj1
        have HCL : Hid (∀ wx : World, RdAt wx L R ⟨r2.ws.drop j, r2.bad || (r2.ws.take j).any fW⟩ → Calls Tryz.prog 136 #[.pointer (some ⟨R, 0, none⟩), .string ⟨#[44]⟩] wx fun e w' => e = .returned (.agg #[.bool (gW r2.ws[j]).neg, .string (gW r2.ws[j]).name]) ∧ RdAt w' L R ⟨r2.ws.drop (j + 1), r2.bad || (r2.ws.take (j + 1)).any fW⟩ ∧ wx.grownBy w' (some R)) := fun wx hx => by
          have := rlit_any L R ⟨r2.ws.drop j, r2.bad || (r2.ws.take j).any fW⟩ comT wx hx (fun x hx => HW2.out x (List.mem_of_mem_drop hx))
          have e : rdLit ⟨r2.ws.drop j, r2.bad || (r2.ws.take j).any fW⟩ comT = (gW r2.ws[j], ⟨r2.ws.drop (j + 1), r2.bad || (r2.ws.take (j + 1)).any fW⟩) := by
            unfold rdLit gW
            simp only
            rw [HHD.out, HTL.out, HTK.out, List.any_append, Bool.or_assoc]
            simp [fW]
          rw [e] at this
          exact this
        clear HHD HTL
        have htl : (List.map gW (r2.ws.take j)).length = j := by rw [List.length_map, List.length_take]; omega
        have HML : Hid ((r2.ws.take (j + 1)).map gW = (r2.ws.take j).map gW ++ [gW r2.ws[j]]) := by show _ = _; rw [HTK.out, List.map_append]; rfl
        clear HTK
        generalize gW r2.ws[j] = y at *
        obtain ⟨yn', ys'⟩ := y
        simp only at HCL
        have hwlt : w.heap.size < wr.heap.size := lt_of_block HKr.out
        have hsz : w.heap.size ≤ wr.heap.size := HGr.out.size
        have hLr := HRr.out.1
        go_wp2_with fail
        have HRd : Hid (RdAt wr.drew L R ⟨r2.ws.drop j, r2.bad || (r2.ws.take j).any fW⟩) := hidIt (HRr.out.go (Below.refl _ _).drew)
        have HPd := hidIt (blk_kept2 HPr.out (Below.refl _ _).drew)
        have HOd := hidIt (HOr.out.kept (only_of_below (Below.refl wr.heap.size wr).drew none) (fun g e => by cases e))
        clear p0 p1 p2 p4 p5 c0
        go_region_law (first
          | ((refine step_append_sl (by rfl) (.tmp 22) (.tmp 25) elemLt (by rfl) (q + 1) (.slice a j c) j _ (by rfl) (World.ownsRow.alloc (by have := HOd.out.kept hg2 (fun g e => by injection e with e; omega); unfold OwnLt at this; rw [htl] at this; exact this) _) _ 1 (by rfl) #[.bool yn', .string ys'] _ (heap_alloc_new w2 _) rfl (hone_lt _ _) (by omega) (by have := hg2.size; simp at *; omega) ?_); intro g5 c5 w5 hown5 hg5 hq5; have hp5 := (hg5.block q (by have := lt_of_block (keepB HPd.out hg2 hk1); simp; omega) (fun e => by have := (HOr.out.blk q e.symm).1; omega)).trans (blk_kept2 (keepB HPd.out hg2 hk1) (bgrow w2 _)); have x5 := (bcell6 hp5).2.2.2.1; have y5 := free_any hp5 3; have l5 := lt_of_block hp5)
          | (go_simp; go_at_call 136; refine (HCL.out _ HRd.out).mono ?_; rintro e w2 ⟨rfl, hr2, hg2⟩; have p3' := (bcell6 (keepB HPd.out hg2 hk1)).2.2.2.1; have lp2 := lt_of_block (keepB HPd.out hg2 hk1)))
        all_goals
          have hown := fun gg (e : (Value.slice a j c).ownBlock = some gg) => (HOr.out.blk gg e).1
          have hr5 := (hr2.alloc (.cells #[.bool yn', .string ys'] 46)).kept hg5 (fun gg e => by have := hown gg e; omega)
          have HR6 := hidIt (RdAt.set L R (b := q) (i := 3) (u := .slice (some ⟨g5, 0, none⟩) (j + 1) c5) hr5 (by omega))
          have hE5 := (((HEr.out.kept (only_of_below (Below.refl wr.heap.size wr).drew none) (fun g e => by cases e)).kept hg2 (fun g e => by injection e with e; omega)).kept (only_alloc (only_refl w2 none) (.cells #[.bool yn', .string ys'] 46)) (fun g e => by cases e)).kept hg5 (fun gg e => by have := hown gg e; omega)
          have HE6 := hidIt (hE5.kept (only_setCell (only_refl w5 (some q)) (p := ⟨q, 3, none⟩) (.inl rfl) (.slice (some ⟨g5, 0, none⟩) (j + 1) c5)) (fun g e => by injection e with e; omega))
          have hG5 := only_up (only_alloc (only_trans (only_trans HGr.out (only_of_below (Below.refl wr.heap.size wr).drew _)) hg2) (.cells #[.bool yn', .string ys'] 46)) hg5 (fun gg e => by have := hown gg e; omega)
          have HG6 := hidIt (only_self hG5 (b := q) (by omega) 3 (.slice (some ⟨g5, 0, none⟩) (j + 1) c5))
          have hK2 := blk_kept2 (keepB (blk_kept2 HKr.out (Below.refl _ _).drew) hg2 hk0) (bgrow w2 (.cells #[.bool yn', .string ys'] 46))
          have hK5 := (hg5.block w.heap.size (lt_of_block hK2) (fun e => by have := hown _ e.symm; omega)).trans hK2
          have HK6 := hidIt (keepS (p := ⟨q, 3, none⟩) (u := .slice (some ⟨g5, 0, none⟩) (j + 1) c5) hK5 hk2)
          have HP6 : Hid ((w5.setCell ⟨q, 3, none⟩ (.slice (some ⟨g5, 0, none⟩) (j + 1) c5)).heap[q]? = some (.cells #[.string nm, .bool true, .int .i64 0, .slice (some ⟨g5, 0, none⟩) (j + 1) c5, .bool false, .string ⟨#[]⟩] 64 (0, 0))) := hidIt (setB (.slice (some ⟨g5, 0, none⟩) (j + 1) c5) hp5)
          have ho5 : OwnLt w5 (q + 1) (.slice (some ⟨g5, 0, none⟩) (j + 1) c5) ((r2.ws.take (j + 1)).map gW) := by rw [HML.out]; exact OwnLt.snoc htl.symm hown5
          have HO6 := hidIt (OwnLt.set (b := q) (i := 3) (u := .slice (some ⟨g5, 0, none⟩) (j + 1) c5) ho5 (by omega))
          clear hown hr5 hE5 hG5 hK2 hK5 ho5 hown5 hg5 hp5 hr2 hg2 hq5 p3' lp2 p3
          go_wp2_with fail
          go_roundw
          case rel => exact ⟨j + 1, some ⟨g5, 0, none⟩, c5, by omega, HR6.out, HE6.out, HG6.out, HK6.out, HP6.out, HO6.out⟩
          case measure =>
            rw [HR6.out.ahead, HRr.out.ahead]
            simp only [List.length_drop]
            omega
      · obtain rfl : j = r2.ws.length - 2 := by omega
        have hltI : ¬ (2 : Int) < ((r2.ws.length - (r2.ws.length - 2) : Nat) : Int) := by omega
        have HRw : Hid (RdAt wr L R r3) := by show RdAt _ _ _ _; rw [HR3E.out]; exact HRr.out
        have HOw : Hid (OwnLt wr (q + 1) (.slice a ((r2.ws.length - 2 : Nat)) c) bd) := by show OwnLt _ _ _ _; rw [HBD.out]; exact HOr.out
        have HW3 : Hid (WsOk r3.ws) := by show WsOk _; rw [HR3E.out]; exact fun x hx => HW2.out x (List.mem_of_mem_drop hx)
        have HN := hidIt (HC3.out HW3.out)
        have hsz : w.heap.size ≤ wr.heap.size := HGr.out.size
        clear HRr HOr HC3 HR3E HBD HLN
        generalize r2.ws.length - 2 = nb at *
        go_wp2_with fail
        clear p0 p1 p2 p3 p4 p5 c0
        refine (word_any L R r3 _ HRw.out).mono ?_
        rintro e w6 ⟨rfl, hr6, hg6⟩
        have HR6 := hidIt hr6
        have HG6 := hidIt (only_trans HGr.out hg6)
        have HK6 := hidIt (keepB HKr.out hg6 hk0)
        have HP6 := hidIt (keepB HPr.out hg6 hk1)
        have HO6 := hidIt (HOw.out.kept hg6 (fun g e => by injection e with e; omega))
        clear hr6 hg6 HRw HGr HKr HPr HOw
        go_wp2_with fail
        refine (HN.out _ HR6.out).mono ?_
        rintro e w7 ⟨rfl, hr7, hg7⟩
        have hp7 := keepB HP6.out hg7 hk1
        have hk7 := keepB HK6.out hg7 hk0
        have HR7 := hidIt hr7
        have HG7 := hidIt (only_trans HG6.out hg7)
        have HO7 := hidIt (HO6.out.kept hg7 (fun g e => by injection e with e; omega))
        clear hr7 hg7 HR6 HG6 HK6 HP6 HO6
        obtain ⟨p0, p1, p2, p3, p4, p5⟩ := bcell6 hp7
        obtain ⟨z0, z1, z2, z3, z4, z5⟩ := bcell6 hk7
        have pf4 := free_any hp7 4
        have pf5 := free_any hp7 5
        have zf0 := free_any hk7 0
        have zf1 := free_any hk7 1
        have zf2 := free_any hk7 2
        have zf3 := free_any hk7 3
        have zf4 := free_any hk7 4
        have zf5 := free_any hk7 5
        have hl4 := lt_of_block hp7
        have hl0 := lt_of_block hk7
        clear hp7 hk7 hqr hRr
        go_wp2_with fail
        refine bodyPost_ret (v := .agg #[.string nm, .bool true, .int .i64 0, .slice a nb c, .bool yn, .string ys]) (by simp [results, Tryz.results94, go_sem, z0, z1, z2, z3, z4, z5, hk2, p0, p1, p2, p3, p4, p5, hl4, hl0]) rfl ?_
        rw [HA.out]
        refine ⟨a, nb, c, rfl, ?_, ?_, ?_⟩
        · refine OwnLt.body (B := q + 1) ?_ |>.mono (fun k hk => by omega)
          repeat refine OwnLt.set ?_ (by omega)
          exact HO7.out
        · repeat refine RdAt.set L R ?_ (by omega)
          exact HR7.out
        · repeat refine only_self ?_ (by omega) _ _
          exact HG7.out
end Go.Proofs.YtfcoplplkbeljaaGreatDoor

namespace Go.Proofs.YtfcoplplkbeljaaGreatDoor
set_option linter.unusedVariables false
set_option linter.unusedSimpArgs false
open Go Go.RowKit

/-- Block R holds the base's three rows, which lie, with the bodies, in blocks from B on; no two share a block. -/
structure BsIn (w : World) (B R : Nat) (b : Bs) (pv rv qv : Value) : Prop where
  box : w.heap[R]? = some (.cells #[pv, rv, qv] 32 (0, 0))
  lt : R < B
  p : OwnPm w B pv b.prems
  r : OwnRu w B (fun k => B ≤ k ∧ pv.ownBlock ≠ some k ∧ qv.ownBlock ≠ some k) rv b.rules
  q : OwnPr w B qv b.proms
  pr : ∀ g, pv.ownBlock = some g → rv.ownBlock ≠ some g
  pq : ∀ g, pv.ownBlock = some g → qv.ownBlock ≠ some g
  rq : ∀ g, rv.ownBlock = some g → qv.ownBlock ≠ some g

theorem shape_own {w : World} {B : Nat} {e : TypeId} {k : Nat} {v : Value} {n : Nat} {xs : List Value} (h : w.ownsRow B e k v n xs) : ∃ (a : Option Addr) (c : Nat), v = .slice a n c ∧ n ≤ c ∧ c ≤ maxLen := by
  rcases h.2 with ⟨rfl, rfl⟩ | ⟨g, cap, cur, rfl, -, -, h1, h2, -⟩
  · exact ⟨none, 0, rfl, Nat.le_refl _, Nat.zero_le _⟩
  · exact ⟨_, cap, rfl, h1, h2⟩

section
variable {w w' : World} {B R : Nat} {b : Bs} {pv rv qv : Value}
theorem BsIn.go (h : BsIn w B R b pv rv qv) (hb : Below w.heap.size w w') : BsIn w' B R b pv rv qv := by
  have hk := fun k (hk : k < w.heap.size) => hb.block k hk
  exact ⟨blk_kept2 h.box hb, h.lt, owns_kept h.p fun g e => hk g (owns_blk h.p g e).2, h.r.kept (fun g e => hk g (h.r.blk g e).2) (fun k _ hl => hk k hl) hb.size (fun k hS _ => hS), owns_kept h.q fun g e => hk g (owns_blk h.q g e).2, h.pr, h.pq, h.rq⟩
theorem BsIn.base (h : BsIn w B R b pv rv qv) : BaseAt w (.agg #[pv, rv, qv]) b := ⟨pv, rv, qv, rfl, OwnPm.at_ h.p, h.r.at_, OwnPr.at_ h.q⟩

/-- What append of one premise, rule, promotion and the store behind it give. -/
theorem BsIn.addP {pv' : Value} {p : Pm} (h : BsIn w B R b pv rv qv) (h2 : w'.ownsRow B 74 5 pv' (b.prems.length + 1) (b.prems.flatMap encPm ++ encPm p)) (hg : w.grownBy w' pv.ownBlock) (hbl : pv'.ownBlock = pv.ownBlock ∨ pv'.ownBlock = some w.heap.size) :
    BsIn (w'.setCell ⟨R, 0, none⟩ pv') B R ⟨b.prems ++ [p], b.rules, b.proms⟩ pv' rv qv := by
  have hne : ∀ g, pv.ownBlock = some g → g ≠ R := fun g e => by have := (owns_blk h.p g e).1; have := h.lt; omega
  have hset : ∀ k, k ≠ R → (w'.setCell ⟨R, 0, none⟩ pv').heap[k]? = w'.heap[k]? := fun k hk => Below.heap_setCell w' ⟨R, 0, none⟩ pv' k hk
  have hbox : w'.heap[R]? = some (.cells #[pv, rv, qv] 32 (0, 0)) := (hg.block R (lt_of_block h.box) (fun e => hne R e.symm rfl)).trans h.box
  have hnew : ∀ k, k < w.heap.size → pv.ownBlock ≠ some k → pv'.ownBlock ≠ some k := fun k hk hp e => by
    rcases hbl with e2 | e2
    · exact hp (by rw [← e2, e])
    · rw [e2] at e; injection e with e; omega
  have hsame : ∀ k, k < w.heap.size → pv.ownBlock ≠ some k → k ≠ R → (w'.setCell ⟨R, 0, none⟩ pv').heap[k]? = w.heap[k]? := fun k hk hp hR => (hset k hR).trans (hg.block k hk (fun e => hp e.symm))
  refine ⟨setB pv' hbox, h.lt, ?_, ?_, ?_, ?_, ?_, h.rq⟩
  · exact owns_kept (OwnPm.snoc h2) fun g e => hset g (by
      have hlt := h.lt
      have := (owns_blk h2 g e).1
      omega)
  · refine h.r.kept (fun g e => hsame g (h.r.blk g e).2 (fun e2 => h.pr g e2 e) (by have := (h.r.blk g e).1; have := h.lt; omega)) (fun k hS hl => hsame k hl hS.2.1 (by have := hS.1; have := h.lt; omega)) (by rw [size_setCell]; exact hg.size) (fun k hS hl => ⟨hS.1, hnew k hl hS.2.1, hS.2.2⟩)
  · exact owns_kept h.q fun g e => hsame g (owns_blk h.q g e).2 (fun e2 => h.pq g e2 e) (by have := (owns_blk h.q g e).1; have := h.lt; omega)
  · intro g e e2
    exact hnew g (h.r.blk g e2).2 (fun e3 => h.pr g e3 e2) e
  · intro g e e2
    exact hnew g (owns_blk h.q g e2).2 (fun e3 => h.pq g e3 e2) e
theorem BsIn.addQ {qv' : Value} {p : Pr} (h : BsIn w B R b pv rv qv) (h2 : w'.ownsRow B 78 4 qv' (b.proms.length + 1) (b.proms.flatMap encPr ++ encPr p)) (hg : w.grownBy w' qv.ownBlock) (hbl : qv'.ownBlock = qv.ownBlock ∨ qv'.ownBlock = some w.heap.size) :
    BsIn (w'.setCell ⟨R, 2, none⟩ qv') B R ⟨b.prems, b.rules, b.proms ++ [p]⟩ pv rv qv' := by
  have hne : ∀ g, qv.ownBlock = some g → g ≠ R := fun g e => by have := (owns_blk h.q g e).1; have := h.lt; omega
  have hset : ∀ k, k ≠ R → (w'.setCell ⟨R, 2, none⟩ qv').heap[k]? = w'.heap[k]? := fun k hk => Below.heap_setCell w' ⟨R, 2, none⟩ qv' k hk
  have hbox : w'.heap[R]? = some (.cells #[pv, rv, qv] 32 (0, 0)) := (hg.block R (lt_of_block h.box) (fun e => hne R e.symm rfl)).trans h.box
  have hnew : ∀ k, k < w.heap.size → qv.ownBlock ≠ some k → qv'.ownBlock ≠ some k := fun k hk hp e => by
    rcases hbl with e2 | e2
    · exact hp (by rw [← e2, e])
    · rw [e2] at e; injection e with e; omega
  have hsame : ∀ k, k < w.heap.size → qv.ownBlock ≠ some k → k ≠ R → (w'.setCell ⟨R, 2, none⟩ qv').heap[k]? = w.heap[k]? := fun k hk hp hR => (hset k hR).trans (hg.block k hk (fun e => hp e.symm))
  refine ⟨setB qv' hbox, h.lt, ?_, ?_, ?_, h.pr, ?_, ?_⟩
  · exact owns_kept h.p fun g e => hsame g (owns_blk h.p g e).2 (h.pq g e) (by have := (owns_blk h.p g e).1; have := h.lt; omega)
  · refine h.r.kept (fun g e => hsame g (h.r.blk g e).2 (h.rq g e) (by have := (h.r.blk g e).1; have := h.lt; omega)) (fun k hS hl => hsame k hl hS.2.2 (by have := hS.1; have := h.lt; omega)) (by rw [size_setCell]; exact hg.size) (fun k hS hl => ⟨hS.1, hS.2.1, hnew k hl hS.2.2⟩)
  · exact owns_kept (OwnPr.snoc h2) fun g e => hset g (by
      have hlt := h.lt
      have := (owns_blk h2 g e).1
      omega)
  · intro g e
    exact hnew g (owns_blk h.p g e).2 (h.pq g e)
  · intro g e
    exact hnew g (h.r.blk g e).2 (h.rq g e)
theorem BsIn.addR {rv' bv : Value} {r : Ru} (h : BsIn w B R b pv rv qv) {bs : List Value} (hl : bs.length = b.rules.length)
    (hf : ∀ i (h : i < b.rules.length) (h' : i < bs.length), BodyIn w (fun k => (B ≤ k ∧ pv.ownBlock ≠ some k ∧ qv.ownBlock ≠ some k) ∧ rv.ownBlock ≠ some k) bs[i] b.rules[i].body)
    (h2 : w'.ownsRow B 64 6 rv' (b.rules.length + 1) (((b.rules.zip bs).flatMap fun x => encRu x.1 x.2) ++ encRu r bv)) (hg : w.grownBy w' rv.ownBlock) (hbl : rv'.ownBlock = rv.ownBlock ∨ rv'.ownBlock = some w.heap.size)
    (hb : BodyIn w (fun k => (B ≤ k ∧ pv.ownBlock ≠ some k ∧ qv.ownBlock ≠ some k) ∧ rv.ownBlock ≠ some k) bv r.body) :
    BsIn (w'.setCell ⟨R, 1, none⟩ rv') B R ⟨b.prems, b.rules ++ [r], b.proms⟩ pv rv' qv := by
  have hne : ∀ g, rv.ownBlock = some g → g ≠ R := fun g e => by have := (h.r.blk g e).1; have := h.lt; omega
  have hset : ∀ k, k ≠ R → (w'.setCell ⟨R, 1, none⟩ rv').heap[k]? = w'.heap[k]? := fun k hk => Below.heap_setCell w' ⟨R, 1, none⟩ rv' k hk
  have hbox : w'.heap[R]? = some (.cells #[pv, rv, qv] 32 (0, 0)) := (hg.block R (lt_of_block h.box) (fun e => hne R e.symm rfl)).trans h.box
  have hnew : ∀ k, k < w.heap.size → rv.ownBlock ≠ some k → rv'.ownBlock ≠ some k := fun k hk hp e => by
    rcases hbl with e2 | e2
    · exact hp (by rw [← e2, e])
    · rw [e2] at e; injection e with e; omega
  have hsame : ∀ k, k < w.heap.size → rv.ownBlock ≠ some k → k ≠ R → (w'.setCell ⟨R, 1, none⟩ rv').heap[k]? = w.heap[k]? := fun k hk hp hR => (hset k hR).trans (hg.block k hk (fun e => hp e.symm))
  have hR := OwnRu.snoc hl hf h2 hg hbl hb
  refine ⟨setB rv' hbox, h.lt, ?_, ?_, ?_, ?_, h.pq, ?_⟩
  · exact owns_kept h.p fun g e => hsame g (owns_blk h.p g e).2 (h.pr g e) (by have := (owns_blk h.p g e).1; have := h.lt; omega)
  · refine hR.kept (fun g e => hset g (by have := (hR.blk g e).1; have := h.lt; omega)) (fun k hS hl => hset k (by have := hS.1; have := h.lt; omega)) (by rw [size_setCell]; exact Nat.le_refl _) (fun k hS hl => hS)
  · exact owns_kept h.q fun g e => hsame g (owns_blk h.q g e).2 (fun e2 => h.rq g e2 e) (by have := (owns_blk h.q g e).1; have := h.lt; omega)
  · intro g e
    exact hnew g (owns_blk h.p g e).2 (h.pr g e)
  · intro g e e2
    exact hnew g (owns_blk h.q g e2).2 (fun e3 => h.rq g e3 e2) e
end
theorem BsIn.new (w : World) : BsIn (w.alloc (.cells #[.slice none 0 0, .slice none 0 0, .slice none 0 0] 32)) (w.heap.size + 1) w.heap.size ⟨[], [], []⟩ (.slice none 0 0) (.slice none 0 0) (.slice none 0 0) :=
  ⟨heap_alloc_new w _, by omega, OwnPm.nil _ _, OwnRu.nil _ _ _, OwnPr.nil _ _, fun g e => by simp [Value.ownBlock] at e, fun g e => by simp [Value.ownBlock] at e, fun g e => by simp [Value.ownBlock] at e⟩

/-- append of one element, with the block of what it hands back. -/
theorem step_append_sb {w : World} {ops : Array Oper} {o : Oper} {a : Act} {K : Act → World → Prop} {Q : Exit → Act → World → Prop} {E : Prop} (hgd : o.guard = none) (s x : Operand) {T e : TypeId} {k by' : Nat} (hE : ElemOf T e k by')
    (ho : o.op = .call { callee := .builtin .append, args := #[s, x], argTypes := #[T, T] }) (B : Nat) (v : Value) (n : Nat) (xs : List Value) (hs : a.eval s = v) (hown : w.ownsRow B e k v n xs)
    (m c1 : Nat) (hx : a.eval x = .slice (some ⟨m, 0, none⟩) 1 c1) (cs : Array Value) (tm : TypeId) (hm : w.heap[m]? = some (.cells cs tm (0, 0))) (hcs : cs.size = k) (hone : ∀ u ∈ cs.toList, u.oneCell' = true) (hlen : n ≤ 1000000) (hB : B ≤ w.heap.size)
    (h : ∀ g cap w', w'.ownsRow B e k (.slice (some ⟨g, 0, none⟩) (n + 1) cap) (n + 1) (xs ++ cs.toList) → w.grownBy w' v.ownBlock → ((Value.slice (some ⟨g, 0, none⟩) (n + 1) cap).ownBlock = v.ownBlock ∨ (Value.slice (some ⟨g, 0, none⟩) (n + 1) cap).ownBlock = some w.heap.size) → K (a.put o.dst (.slice (some ⟨g, 0, none⟩) (n + 1) cap)) w') :
    if Region.wanted o (yielded ops a.tmps) = true then Oper.wp Tryz.prog o a w K Q else E :=
  step_append_one hgd s x hE ho B v n xs hs hown m c1 hx cs tm hm hcs hone hlen hB fun v' w' h1 h2 h3 => by
    obtain ⟨g, cap, rfl, hg⟩ := owns_slice h1
    exact h g cap w' h1 h2 h3
theorem one_of {l : List Value} (h : l.all (fun u => u.oneCell') = true) : ∀ u ∈ l, u.oneCell' = true := fun u hu => List.all_eq_true.1 h u hu
theorem below_grown5 {n R : Nat} {w a a' : World} (h : Below n w a) (hg : a.grownBy a' (some R)) (hn : n ≤ R) (hna : n ≤ a.heap.size) : Below n w a' :=
  ⟨hg.os.trans h.os, hg.tape.trans h.tape, hg.output.trans h.output, Nat.le_trans h.size hg.size, fun k hk => (hg.block k (by omega) (fun e => by injection e with e; omega)).trans (h.block k hk)⟩
end Go.Proofs.YtfcoplplkbeljaaGreatDoor
