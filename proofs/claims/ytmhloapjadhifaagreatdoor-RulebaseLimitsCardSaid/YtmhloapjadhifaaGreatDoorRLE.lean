/- The text of a rule base: the lines of its premises, rules and promotions, through a strings.Builder. A valid rule base fits: its names are short, its ranks are digits. Format of a rule base. What Parse answers, in plain words. The kind of a word. One line added to a rule base. One line added to a rule base: a rule. One line added to a rule base: a promotion. One line added to a rule base: a premise. strings.Cut at a line feed; one line of whatever kind. Parse of a rule base's text. A list of literals is its own normal form just if it ascends. The examples of chapter 5, in plain words. The examples of chapter 5 hold in whatever memory. Three bases with one row each, built side by side. The document's own answers about names, texts and literals: what ValidName, Valid, Format, Parse, Compare and Complement of the reference answer: the same as the program's. As XRel, with one thing more: of temporaries that are marked 'own' it is known besides that no two of them have one block. A region that draws its order, whose operations may give values that hang on the order (new memory's addresses): each such value is known by a relation of its own, laid ahead; one walk in the order of the text serves every order. An operation may lean on the relations of those temporaries alone that it looks at. A region that draws its order and ends in operations that follow each other, each of which waits for all before it (stores): all before those go by relations (XRelD), those are carried out behind them, in the world that they leave. Steps and relations for regions of XRelN, in the class of worlds that grow. -/
import Derived.Lib.IndexLaws
import Derived.BigQuiet
import Derived.WalkKit
import Derived.Test.YtmhloapjadhifaaGreatDoorRLA
import Derived.Test.YtmhloapjadhifaaGreatDoorRLB
import Derived.Test.YtmhloapjadhifaaGreatDoorRLC
import Derived.Test.YtmhloapjadhifaaGreatDoorRLD

namespace Go.Proofs.YtmhloapjadhifaaGreatDoor
set_option linter.unusedVariables false
set_option linter.unusedSimpArgs false
open Go Go.RowKit

theorem builder_go {T e : TypeId} {B b : Nat} {bs : List Value} {w w' : World} (h : Lib.IsBuilder T e B b bs w) (hb : Below w.heap.size w w') : Lib.IsBuilder T e B b bs w' := by
  have key : ∀ p, Lib.BuilderAt T e B b p bs w → Lib.BuilderAt T e B b p bs w' := by
    intro p hp
    have hl := hp.lt
    obtain ⟨h1, v, h2, h3, h4⟩ := hp
    refine ⟨h1, v, (hb.block b hl).trans h2, h3.kept (only_of_below hb none) ?_, h4⟩
    cases hv : v.ownBlock with
    | none => exact .inl rfl
    | some x => exact .inr (by simp)
  rcases h with h | h
  · exact .inl (key _ h)
  · exact .inr (key _ h)

/-- A rule base such as a valid one. -/
def PmFit (p : Pm) : Prop := (p.kind = 1 ∨ p.kind = 2 ∨ p.kind = 3) ∧ (0 ≤ p.rank ∧ p.rank ≤ 9) ∧ p.src.size ≤ 12 ∧ p.lit.name.size ≤ 12
def RuFit (r : Ru) : Prop := (0 ≤ r.rank ∧ r.rank ≤ 9) ∧ r.name.size ≤ 12 ∧ r.head.name.size ≤ 12 ∧ (∀ x ∈ r.body, x.name.size ≤ 12) ∧ r.body.length ≤ 4
def PrFit (p : Pr) : Prop := (0 ≤ p.rank ∧ p.rank ≤ 9) ∧ p.rule.size ≤ 12 ∧ p.lit.name.size ≤ 12
def BsFit (b : Bs) : Prop := (∀ p ∈ b.prems, PmFit p) ∧ (∀ r ∈ b.rules, RuFit r) ∧ (∀ p ∈ b.proms, PrFit p) ∧ b.prems.length ≤ 16 ∧ b.rules.length ≤ 24 ∧ b.proms.length ≤ 8

def nlT : ByteArray := ⟨#[10]⟩
def premLn (p : Pm) : ByteArray := premT p p.rank.toNat ++ nlT
def ruleLn (r : Ru) : ByteArray := ruleT r r.rank.toNat ++ nlT
def promLn (p : Pr) : ByteArray := promT p p.rank.toNat ++ nlT
/-- The bytes of the first k lines of a list. -/
def linesB : List ByteArray → Nat → List UInt8
  | _, 0 => []
  | ls, k + 1 => linesB ls k ++ (ls.getD k ⟨#[]⟩).data.toList
theorem linesB_len (m : Nat) (ls : List ByteArray) (h : ∀ x ∈ ls, x.size ≤ m) : ∀ k, (linesB ls k).length ≤ k * m
  | 0 => by simp [linesB]
  | k + 1 => by
    have ih := linesB_len m ls h k
    have e : (linesB ls (k + 1)).length = (linesB ls k).length + (ls.getD k ⟨#[]⟩).size := by
      rw [linesB, List.length_append, Array.length_toList]; rfl
    have hm : (ls.getD k ⟨#[]⟩).size ≤ m := by
      by_cases hk : k < ls.length
      · rw [List.getD_eq_getElem?_getD, List.getElem?_eq_getElem hk]
        exact h _ (List.getElem_mem hk)
      · rw [List.getD_eq_getElem?_getD, List.getElem?_eq_none (by omega)]
        exact Nat.zero_le _
    rw [e, Nat.add_mul, Nat.one_mul]
    omega

theorem builder_new (w : World) : Lib.IsBuilder 140 5 w.heap.size w.heap.size (Lib.byteCells []) (w.alloc (.cells #[.pointer none, .slice none 0 0] 140)) :=
  .inl ⟨Nat.le_refl _, .slice none 0 0, heap_alloc_new w _, ⟨rfl, .inl ⟨rfl, rfl⟩⟩, by simp [Value.ownBlock]⟩
theorem bytes_snoc (l : List UInt8) (s : ByteArray) : Lib.byteCells l ++ Lib.strCells s = Lib.byteCells (l ++ s.data.toList) := by
  unfold Lib.byteCells Lib.strCells
  rw [List.map_append]
theorem linesB_snoc {α : Type} (g : α → ByteArray) (xs : List α) (k : Nat) (hk : k < xs.length) : linesB (xs.map g) (k + 1) = linesB (xs.map g) k ++ (g xs[k]).data.toList := by
  rw [linesB, List.getD_eq_getElem?_getD, List.getElem?_map, List.getElem?_eq_getElem hk]
  rfl

theorem premT_size (p : Pm) (n : Nat) (hn : n < 10) (h1 : p.src.size ≤ 12) (h2 : p.lit.name.size ≤ 12) : (premT p n).size ≤ 60 := by
  have hd := dig_size n hn
  have hl := lit_size h2
  have hw : (wordT p.kind).size ≤ 7 := by
    unfold wordT
    split
    · decide
    · split <;> decide
  have e1 : (⟨#[32]⟩ : ByteArray).size = 1 := rfl
  have e2 : (⟨#[32, 102, 114, 111, 109, 32]⟩ : ByteArray).size = 6 := rfl
  have h0 : (premT0 p).size ≤ 21 := by unfold premT0; rw [ByteArray.size_append, ByteArray.size_append]; omega
  have h3 : (premT1 p n).size ≤ 30 := by
    unfold premT1
    split
    · rw [ByteArray.size_append, ByteArray.size_append]; omega
    · omega
  unfold premT
  split
  · omega
  · rw [ByteArray.size_append, ByteArray.size_append]; omega

theorem ruleT_size (r : Ru) (n : Nat) (hn : n < 10) (h1 : r.name.size ≤ 12) (h2 : r.head.name.size ≤ 12) (h3 : ∀ x ∈ r.body, x.name.size ≤ 12) (h4 : r.body.length ≤ 4) : (ruleT r n).size ≤ 80100 := by
  have hd := dig_size n hn
  have hl := lit_size h2
  have hb := bodyT_size r.body h3 (by omega)
  unfold ruleT
  simp only [ByteArray.size_append]
  have e1 : (⟨#[32]⟩ : ByteArray).size = 1 := rfl
  have e2 : (⟨#[58, 32]⟩ : ByteArray).size = 2 := rfl
  have e3 : (if r.strict then (⟨#[45, 62]⟩ : ByteArray) else ⟨#[61, 62]⟩).size = 2 := by cases r.strict <;> rfl
  have e4 : (if r.strict then (⟨#[115, 116, 114, 105, 99, 116, 32]⟩ : ByteArray) ++ r.name else (⟨#[114, 117, 108, 101, 32]⟩ : ByteArray) ++ r.name ++ ⟨#[32]⟩ ++ digT n).size ≤ 30 := by
    have e5 : (⟨#[115, 116, 114, 105, 99, 116, 32]⟩ : ByteArray).size = 7 := rfl
    have e6 : (⟨#[114, 117, 108, 101, 32]⟩ : ByteArray).size = 5 := rfl
    cases r.strict
    · show ((⟨#[114, 117, 108, 101, 32]⟩ : ByteArray) ++ r.name ++ ⟨#[32]⟩ ++ digT n).size ≤ 30
      simp only [ByteArray.size_append]; omega
    · show ((⟨#[115, 116, 114, 105, 99, 116, 32]⟩ : ByteArray) ++ r.name).size ≤ 30
      simp only [ByteArray.size_append]; omega
  omega
theorem promT_size (p : Pr) (n : Nat) (hn : n < 10) (h1 : p.rule.size ≤ 12) (h2 : p.lit.name.size ≤ 12) : (promT p n).size ≤ 60 := by
  have hd := dig_size n hn
  have hl := lit_size h2
  unfold promT
  simp only [ByteArray.size_append]
  have e1 : (⟨#[32]⟩ : ByteArray).size = 1 := rfl
  have e2 : (⟨#[112, 114, 111, 109, 111, 116, 101, 32]⟩ : ByteArray).size = 8 := rfl
  have e3 : (⟨#[32, 105, 102, 32]⟩ : ByteArray).size = 4 := rfl
  omega

set_option maxRecDepth 100000 in
set_option maxHeartbeats 4000000 in
theorem text_any (b : Bs) (hf : BsFit b) (v : Value) (w : World) (hv : BaseAt w v b) (hw : WordsAt w) :
    Calls Tryz.prog 75 #[v] w fun e w' => e = .returned (.string ⟨(linesB (b.prems.map premLn) b.prems.length ++ linesB (b.rules.map ruleLn) b.rules.length ++ linesB (b.proms.map promLn) b.proms.length).toArray⟩) ∧ Below w.heap.size w w' := by
  obtain ⟨a1, a2, a3, c1, c2, c3, rfl, m1, n1, m2, n2, m3, n3, hp1, hp2, hp3⟩ := hv.form
  obtain ⟨f1, f2, f3, g1, g2, g3⟩ := hf
  have hl1 : b.prems.length ≤ 9223372036854775807 := by omega
  have hl2 : b.rules.length ≤ 9223372036854775807 := by omega
  have hl3 : b.proms.length ≤ 9223372036854775807 := by omega
  have hgr := bgrow w (.cells #[.slice a1 b.prems.length c1, .slice a2 b.rules.length c2, .slice a3 b.proms.length c3] 26)
  have HP1 := hidIt (RowIn.form (hp1.below hgr))
  have HP2 := hidIt (RowIn.form (hp2.below hgr))
  have HP3 := hidIt (RowIn.form (hp3.below hgr))
  have HW := hidIt (hw.go hgr)
  have HG := hidIt hgr
  have HK := hidIt (heap_alloc_new w (.cells #[.slice a1 b.prems.length c1, .slice a2 b.rules.length c2, .slice a3 b.proms.length c3] 26))
  have hsz := size_alloc w (.cells #[.slice a1 b.prems.length c1, .slice a2 b.rules.length c2, .slice a3 b.proms.length c3] 26)
  clear hp1 hp2 hp3 hv hw n1 n2 n3 m1 m2 m3 hgr
  go_enter Tryz.func75, Tryz.ntmps75
  go_wp2_with fail
  generalize (w.alloc (.cells #[.slice a1 b.prems.length c1, .slice a2 b.rules.length c2, .slice a3 b.proms.length c3] 26)) = wB at *
  rw [← hsz]
  clear hsz
  have HNEW := hidIt (builder_new wB)
  have HGB := hidIt (bgrow wB (.cells #[.pointer none, .slice none 0 0] 140))
  have HS1 : Hid (∀ k, (linesB (b.prems.map premLn) k).length ≤ k * 61) := linesB_len 61 _ (fun x hx => by
    obtain ⟨p, hp, rfl⟩ := List.mem_map.1 hx
    obtain ⟨-, hr, h1, h2⟩ := f1 p hp
    have := premT_size p p.rank.toNat (by omega) h1 h2
    unfold premLn
    rw [ByteArray.size_append]
    have e1 : nlT.size = 1 := rfl
    omega)
  generalize (wB.alloc (.cells #[.pointer none, .slice none 0 0] 140)) = w0 at *
  go_loopw [5, 13] (fun _ i wr => ∃ k : Nat, k ≤ b.prems.length ∧ i = .int .i64 k ∧ Hid (Below wB.heap.size wB wr) ∧ Hid (Lib.IsBuilder 140 5 wB.heap.size wB.heap.size (Lib.byteCells (linesB (b.prems.map premLn) k)) wr)) (fun _ i _ => b.prems.length - (intOf i).toNat)
  case atStart => exact ⟨0, Nat.zero_le _, rfl, HGB, HNEW⟩
  case round =>
    obtain ⟨k, hk, rfl, HBr, HBU⟩ := hrel
    by_cases hlt : k < b.prems.length
    · have hkr := hlt
      obtain ⟨a1', c1', e2, -, -, hrow⟩ := HP1.out
      injection e2 with e2 e3 e4
      subst e2 e4
      obtain ⟨bb, off, rfl, hbl, d0', d1', d2', d3', d4'⟩ := hrow k hkr
      have HFIT := hidIt (f1 _ (List.getElem_mem hkr))
      have HSN := hidIt (linesB_snoc premLn b.prems k hkr)
      have d0 := (HBr.out.cell (p := ⟨bb, off + k * 5, none⟩) hbl).trans d0'
      have d1 := (HBr.out.cell (p := ⟨bb, off + k * 5 + 1, none⟩) hbl).trans d1'
      have d2 := (HBr.out.cell (p := ⟨bb, off + k * 5 + 2, none⟩) hbl).trans d2'
      have d3 := (HBr.out.cell (p := ⟨bb, off + k * 5 + 3, none⟩) hbl).trans d3'
      have d4 := (HBr.out.cell (p := ⟨bb, off + k * 5 + 4, none⟩) hbl).trans d4'
      have hbl2 := Nat.lt_of_lt_of_le hbl HBr.out.size
      have hltI : (k : Int) < (b.prems.length : Int) := by omega
      have hk0 : (0 : Int) ≤ (k : Int) := by omega
      have HSk := hidIt (HS1.out k)
      generalize b.prems[k] = p at *
      clear hrow d0' d1' d2' d3' d4' hbl
      have hgr := bgrow wr (.cells #[.bool p.lit.neg, .string p.lit.name, .int .i64 p.kind, .int .i64 p.rank, .string p.src] 64)
      have HBa := hidIt (HBr.out.trans (Below.mono hgr HBr.out.size))
      have HBUa := hidIt (builder_go HBU.out hgr)
      clear hgr
      obtain ⟨q1, q2, q3, q4⟩ := HFIT.out
      have HQN : Hid (p.rank = ((p.rank.toNat : Nat) : Int)) := (by omega : p.rank = ((p.rank.toNat : Nat) : Int))
      have hps := premT_size p p.rank.toNat (by omega) q3 q4
      have HLN : Hid (premLn p = premT p p.rank.toNat ++ nlT) := by show _ = _; rfl
      go_wp2_with fail
      refine (premLine_any p p.rank.toNat (by omega) HQN.out q3 q4 q1 _ (HW.out.go HBa.out)).mono ?_
      rintro e w1 ⟨rfl, hb1⟩
      have HBb := hidIt (HBa.out.trans (Below.mono hb1 HBa.out.size))
      have HBUb := hidIt (builder_go HBUa.out hb1)
      generalize premT p p.rank.toNat = T at *
      have hcat : ¬ 9223372036854775807 < T.size + 1 := by omega
      clear hb1 HBUa HBa d0 d1 d2 d3 d4 hbl2 q1 q2 q3 q4
      go_wp2_with fail
      refine (write_any wB.heap.size wB.heap.size _ _ w1 HBUb.out ?_ HBb.out.size).mono ?_
      · have := HSk.out
        have e1 : (Lib.byteCells (linesB (b.prems.map premLn) k)).length = (linesB (b.prems.map premLn) k).length := by unfold Lib.byteCells; rw [List.length_map]
        rw [e1, ByteArray.size_append]
        have e2 : (⟨#[10]⟩ : ByteArray).size = 1 := rfl
        omega
      rintro e w2 ⟨rfl, hbu, hb2⟩
      have HBc := hidIt (HBb.out.trans hb2)
      have HBUc : Hid (Lib.IsBuilder 140 5 wB.heap.size wB.heap.size (Lib.byteCells (linesB (b.prems.map premLn) (k + 1))) w2) := by
        show Lib.IsBuilder _ _ _ _ _ _
        rw [HSN.out, HLN.out]
        rw [bytes_snoc] at hbu
        exact hbu
      clear hbu hb2 HBUb HBb hps hcat
      go_wp2_with fail
      go_roundw
      case rel => exact ⟨k + 1, by omega, by go_num, HBc, HBUc⟩
      case measure => simp [intOf]; omega
    · obtain rfl : k = b.prems.length := by omega
      have HKr := hidIt (blk_kept2 HK.out HBr.out)
      obtain ⟨k0, k1, k2⟩ := bcell3 HKr.out
      have lk := lt_of_block HKr.out
      go_wp2_with fail
      clear k0 k1 k2 lk
      generalize hwA : wr = wA at *
      clear hwA
      have HS2 : Hid (∀ k, (linesB (b.rules.map ruleLn) k).length ≤ k * 80101) := linesB_len 80101 _ (fun x hx => by
        obtain ⟨p, hp, rfl⟩ := List.mem_map.1 hx
        obtain ⟨hr, h1, h2, h3, h4⟩ := f2 p hp
        have := ruleT_size p p.rank.toNat (by omega) h1 h2 h3 h4
        unfold ruleLn
        rw [ByteArray.size_append]
        have e1 : nlT.size = 1 := rfl
        omega)
      have HZ1 := hidIt (HS1.out b.prems.length)
      generalize hPe1 : linesB (b.prems.map premLn) b.prems.length = P1 at *
      have HPe1 := hidIt hPe1
      clear hPe1
      clear HS1 HP1 HKr
      go_loopw [7, 25] (fun _ i wr => ∃ k : Nat, k ≤ b.rules.length ∧ i = .int .i64 k ∧ Hid (Below wB.heap.size wB wr) ∧ Hid (Lib.IsBuilder 140 5 wB.heap.size wB.heap.size (Lib.byteCells (P1 ++ linesB (b.rules.map ruleLn) k)) wr)) (fun _ i _ => b.rules.length - (intOf i).toNat)
      case atStart => exact ⟨0, Nat.zero_le _, rfl, HBr, by show Lib.IsBuilder _ _ _ _ _ _; rw [linesB, List.append_nil]; exact HBU.out⟩
      case round =>
        clear HBr HBU
        obtain ⟨k, hk, rfl, HBr, HBU⟩ := hrel
        by_cases hlt : k < b.rules.length
        · have hkr := hlt
          obtain ⟨a2', c2', e2, -, -, hrow⟩ := HP2.out
          injection e2 with e2 e3 e4
          subst e2 e4
          obtain ⟨bb, off, rfl, hbl, bv, d0', d1', d2', d3', d4', d5', hbody'⟩ := hrow k hkr
          have HFIT := hidIt (f2 _ (List.getElem_mem hkr))
          have HSN := hidIt (linesB_snoc ruleLn b.rules k hkr)
          have hbody := hbody'.below HBr.out
          have d0 := (HBr.out.cell (p := ⟨bb, off + k * 6, none⟩) hbl).trans d0'
          have d1 := (HBr.out.cell (p := ⟨bb, off + k * 6 + 1, none⟩) hbl).trans d1'
          have d2 := (HBr.out.cell (p := ⟨bb, off + k * 6 + 2, none⟩) hbl).trans d2'
          have d3 := (HBr.out.cell (p := ⟨bb, off + k * 6 + 3, none⟩) hbl).trans d3'
          have d4 := (HBr.out.cell (p := ⟨bb, off + k * 6 + 4, none⟩) hbl).trans d4'
          have d5 := (HBr.out.cell (p := ⟨bb, off + k * 6 + 5, none⟩) hbl).trans d5'
          have hbl2 := Nat.lt_of_lt_of_le hbl HBr.out.size
          have hltI : (k : Int) < (b.rules.length : Int) := by omega
          have hk0 : (0 : Int) ≤ (k : Int) := by omega
          have HSk := hidIt (HS2.out k)
          generalize b.rules[k] = p at *
          obtain ⟨ab, cb, rfl, -, -, -⟩ := hbody.form
          clear hrow d0' d1' d2' d3' d4' d5' hbl hbody'
          have hgr := bgrow wr (.cells #[.string p.name, .bool p.strict, .int .i64 p.rank, .slice ab p.body.length cb, .bool p.head.neg, .string p.head.name] 66)
          have HBa := hidIt (HBr.out.trans (Below.mono hgr HBr.out.size))
          have HBUa := hidIt (builder_go HBU.out hgr)
          have HYa := hidIt (hbody.below hgr)
          clear hgr hbody
          obtain ⟨q1, q2, q3, q4, q5⟩ := HFIT.out
          have HQN : Hid (p.rank = ((p.rank.toNat : Nat) : Int)) := (by omega : p.rank = ((p.rank.toNat : Nat) : Int))
          have hps := ruleT_size p p.rank.toNat (by omega) q2 q3 q4 q5
          have HLN : Hid (ruleLn p = ruleT p p.rank.toNat ++ nlT) := by show _ = _; rfl
          go_wp2_with fail
          refine (ruleLine_any p p.rank.toNat (by omega) HQN.out q2 q3 q4 (by omega) _ _ _ HYa.out).mono ?_
          rintro e w1 ⟨rfl, hb1⟩
          have HBb := hidIt (HBa.out.trans (Below.mono hb1 HBa.out.size))
          have HBUb := hidIt (builder_go HBUa.out hb1)
          generalize ruleT p p.rank.toNat = T at *
          have hcat : ¬ 9223372036854775807 < T.size + 1 := by omega
          clear hb1 HBUa HBa d0 d1 d2 d3 d4 d5 hbl2 q1 q2 q3 q4 q5 HYa
          go_wp2_with fail
          refine (write_any wB.heap.size wB.heap.size _ _ w1 HBUb.out ?_ HBb.out.size).mono ?_
          · have := HSk.out
            have hz := HZ1.out
            have e1 : (Lib.byteCells (P1 ++ linesB (b.rules.map ruleLn) k)).length = P1.length + (linesB (b.rules.map ruleLn) k).length := by unfold Lib.byteCells; rw [List.length_map, List.length_append]
            rw [e1, ByteArray.size_append]
            have e2 : (⟨#[10]⟩ : ByteArray).size = 1 := rfl
            omega
          rintro e w2 ⟨rfl, hbu, hb2⟩
          have HBc := hidIt (HBb.out.trans hb2)
          have HBUc : Hid (Lib.IsBuilder 140 5 wB.heap.size wB.heap.size (Lib.byteCells (P1 ++ linesB (b.rules.map ruleLn) (k + 1))) w2) := by
            show Lib.IsBuilder _ _ _ _ _ _
            rw [HSN.out, HLN.out]
            rw [bytes_snoc, List.append_assoc] at hbu
            exact hbu
          clear hbu hb2 HBUb HBb hps hcat
          go_wp2_with fail
          go_roundw
          case rel => exact ⟨k + 1, by omega, by go_num, HBc, HBUc⟩
          case measure => simp [intOf]; omega
        · obtain rfl : k = b.rules.length := by omega
          have HKr := hidIt (blk_kept2 HK.out HBr.out)
          obtain ⟨k0, k1, k2⟩ := bcell3 HKr.out
          have lk := lt_of_block HKr.out
          go_wp2_with fail
          clear k0 k1 k2 lk
          generalize hwC : wr = wC at *
          clear hwC
          have HS3 : Hid (∀ k, (linesB (b.proms.map promLn) k).length ≤ k * 61) := linesB_len 61 _ (fun x hx => by
            obtain ⟨p, hp, rfl⟩ := List.mem_map.1 hx
            obtain ⟨hr, h1, h2⟩ := f3 p hp
            have := promT_size p p.rank.toNat (by omega) h1 h2
            unfold promLn
            rw [ByteArray.size_append]
            have e1 : nlT.size = 1 := rfl
            omega)
          have HZ2 := hidIt (HS2.out b.rules.length)
          generalize hPe2 : linesB (b.rules.map ruleLn) b.rules.length = P2 at *
          have HPe2 := hidIt hPe2
          clear hPe2
          clear HS2 HP2 HKr
          go_loopw [9, 37] (fun _ i wr => ∃ k : Nat, k ≤ b.proms.length ∧ i = .int .i64 k ∧ Hid (Below wB.heap.size wB wr) ∧ Hid (Lib.IsBuilder 140 5 wB.heap.size wB.heap.size (Lib.byteCells (P1 ++ P2 ++ linesB (b.proms.map promLn) k)) wr)) (fun _ i _ => b.proms.length - (intOf i).toNat)
          case atStart => exact ⟨0, Nat.zero_le _, rfl, HBr, by show Lib.IsBuilder _ _ _ _ _ _; rw [linesB, List.append_nil]; exact HBU.out⟩
          case round =>
            clear HBr HBU
            obtain ⟨k, hk, rfl, HBr, HBU⟩ := hrel
            by_cases hlt : k < b.proms.length
            · have hkr := hlt
              obtain ⟨a3', c3', e2, -, -, hrow⟩ := HP3.out
              injection e2 with e2 e3 e4
              subst e2 e4
              obtain ⟨bb, off, rfl, hbl, d0', d1', d2', d3'⟩ := hrow k hkr
              have HFIT := hidIt (f3 _ (List.getElem_mem hkr))
              have HSN := hidIt (linesB_snoc promLn b.proms k hkr)
              have d0 := (HBr.out.cell (p := ⟨bb, off + k * 4, none⟩) hbl).trans d0'
              have d1 := (HBr.out.cell (p := ⟨bb, off + k * 4 + 1, none⟩) hbl).trans d1'
              have d2 := (HBr.out.cell (p := ⟨bb, off + k * 4 + 2, none⟩) hbl).trans d2'
              have d3 := (HBr.out.cell (p := ⟨bb, off + k * 4 + 3, none⟩) hbl).trans d3'
              have hbl2 := Nat.lt_of_lt_of_le hbl HBr.out.size
              have hltI : (k : Int) < (b.proms.length : Int) := by omega
              have hk0 : (0 : Int) ≤ (k : Int) := by omega
              have HSk := hidIt (HS3.out k)
              generalize b.proms[k] = p at *
              clear hrow d0' d1' d2' d3' hbl
              have hgr := bgrow wr (.cells #[.string p.rule, .int .i64 p.rank, .bool p.lit.neg, .string p.lit.name] 68)
              have HBa := hidIt (HBr.out.trans (Below.mono hgr HBr.out.size))
              have HBUa := hidIt (builder_go HBU.out hgr)
              clear hgr
              obtain ⟨q1, q2, q3⟩ := HFIT.out
              have HQN : Hid (p.rank = ((p.rank.toNat : Nat) : Int)) := (by omega : p.rank = ((p.rank.toNat : Nat) : Int))
              have hps := promT_size p p.rank.toNat (by omega) q2 q3
              have HLN : Hid (promLn p = promT p p.rank.toNat ++ nlT) := by show _ = _; rfl
              go_wp2_with fail
              refine (promLine_any p p.rank.toNat (by omega) HQN.out q2 q3 _).mono ?_
              rintro e w1 ⟨rfl, hb1⟩
              have HBb := hidIt (HBa.out.trans (Below.mono hb1 HBa.out.size))
              have HBUb := hidIt (builder_go HBUa.out hb1)
              generalize promT p p.rank.toNat = T at *
              have hcat : ¬ 9223372036854775807 < T.size + 1 := by omega
              clear hb1 HBUa HBa d0 d1 d2 d3 hbl2 q1 q2 q3
              go_wp2_with fail
              refine (write_any wB.heap.size wB.heap.size _ _ w1 HBUb.out ?_ HBb.out.size).mono ?_
              · have := HSk.out
                have hz := HZ1.out
                have hz2 := HZ2.out
                have e1 : (Lib.byteCells (P1 ++ P2 ++ linesB (b.proms.map promLn) k)).length = P1.length + P2.length + (linesB (b.proms.map promLn) k).length := by unfold Lib.byteCells; rw [List.length_map, List.length_append, List.length_append]
                rw [e1, ByteArray.size_append]
                have e2 : (⟨#[10]⟩ : ByteArray).size = 1 := rfl
                omega
              rintro e w2 ⟨rfl, hbu, hb2⟩
              have HBc := hidIt (HBb.out.trans hb2)
              have HBUc : Hid (Lib.IsBuilder 140 5 wB.heap.size wB.heap.size (Lib.byteCells (P1 ++ P2 ++ linesB (b.proms.map promLn) (k + 1))) w2) := by
                show Lib.IsBuilder _ _ _ _ _ _
                rw [HSN.out, HLN.out]
                rw [bytes_snoc, List.append_assoc] at hbu
                exact hbu
              clear hbu hb2 HBUb HBb hps hcat
              go_wp2_with fail
              go_roundw
              case rel => exact ⟨k + 1, by omega, by go_num, HBc, HBUc⟩
              case measure => simp [intOf]; omega
            · obtain rfl : k = b.proms.length := by omega
              have HEND : Hid (⟨(P1 ++ P2 ++ linesB (b.proms.map promLn) b.proms.length).toArray⟩ = (⟨(P1 ++ P2 ++ linesB (b.proms.map promLn) b.proms.length).toArray⟩ : ByteArray)) := by show _ = _; rfl
              go_wp2_with fail
              refine (Tryz.Builder_String_any wB.heap.size wB.heap.size _ wr HBU.out HBr.out.size).mono ?_
              rintro e w1 ⟨rfl, hb1⟩
              have HBz := hidIt (HG.out.trans (Below.mono (HBr.out.trans hb1) HG.out.size))
              clear hb1
              go_wp2_with fail
              go_ret
              refine ⟨?_, HBz.out⟩
              rw [HPe1.out, HPe2.out, List.append_assoc]
              rfl

end Go.Proofs.YtmhloapjadhifaaGreatDoor

namespace Go.Proofs.YtmhloapjadhifaaGreatDoor
set_option linter.unusedVariables false
set_option linter.unusedSimpArgs false
open Go Go.RowKit

theorem vn_size {s : ByteArray} (h : vn s = true) : s.size ≤ 12 := by
  unfold vn at h
  rw [Bool.and_eq_true, decide_eq_true_eq] at h
  exact h.1.2
theorem rankB_fit {n : Int} {g : Bool} (h : rankB n g = true) : 0 ≤ n ∧ n ≤ 9 := by
  unfold rankB at h
  cases g
  · have h2 : n = 0 := by simpa using h
    omega
  · simpa using h
theorem srcB_size {s : ByteArray} (h : srcB s = true) : s.size ≤ 12 := by
  unfold srcB at h
  rw [Bool.or_eq_true, decide_eq_true_eq] at h
  rcases h with h | h
  · omega
  · exact vn_size h
theorem errUp_zero {f : Nat → Int} : ∀ n, errUp f n = 0 → ∀ k, k < n → f k = 0
  | 0, _, k, hk => absurd hk (by omega)
  | n + 1, h, k, hk => by
    rw [errUp] at h
    by_cases h0 : errUp f n = 0
    · rw [if_pos h0] at h
      by_cases e : k = n
      · subst e; exact h
      · exact errUp_zero n h0 k (by omega)
    · rw [if_neg h0] at h
      exact absurd h h0
theorem posI_hit {α : Type} {p : α → Bool} {xs : List α} (h : ¬ posI p xs < 0) : ∃ x ∈ xs, p x = true := by
  unfold posI at h
  by_cases hl : xs.findIdx p < xs.length
  · exact ⟨_, List.getElem_mem hl, List.findIdx_getElem⟩
  · rw [if_neg hl] at h
    exact absurd (by decide) h

theorem premE_fit {b : Bs} {p : Pm} {i : Nat} (h : premE b p i = 0) : PmFit p := by
  unfold premE at h
  by_cases h1 : p.kind = 1 ∨ p.kind = 2 ∨ p.kind = 3
  · rw [if_neg (fun h => h h1)] at h
    cases h2 : premB p
    · rw [h2, if_pos rfl] at h; cases h
    · unfold premB at h2
      rw [Bool.and_eq_true, Bool.and_eq_true] at h2
      exact ⟨h1, rankB_fit h2.1.2, srcB_size h2.2, vn_size h2.1.1⟩
  · rw [if_pos h1] at h; cases h
theorem ruleE_fit {b : Bs} {r : Ru} {i : Nat} (h : ruleE b r i = 0) : RuFit r := by
  unfold ruleE at h
  by_cases h4 : 4 < r.body.length
  · rw [if_pos h4] at h; cases h
  · rw [if_neg h4] at h
    cases h2 : ruleB r
    · rw [h2, if_pos rfl] at h; cases h
    · unfold ruleB at h2
      rw [Bool.and_eq_true, Bool.and_eq_true, Bool.and_eq_true] at h2
      obtain ⟨a1, a2, a3, a4⟩ := h2
      refine ⟨rankB_fit a2, vn_size a1, vn_size a3, fun x hx => ?_, by omega⟩
      have h5 : r.body.any badL = false := by simpa using a4
      rw [List.any_eq_false] at h5
      have h6 := h5 x hx
      unfold badL at h6
      exact vn_size (by simpa using h6)
theorem promE_fit {b : Bs} {p : Pr} (hb : ∀ r ∈ b.rules, RuFit r) (h : promE b p = 0) : PrFit p := by
  unfold promE at h
  cases h1 : (rankB p.rank true && vn p.lit.name)
  · rw [h1, if_pos rfl] at h; cases h
  · rw [h1, if_neg (by decide)] at h
    by_cases h2 : posI (hasName p.rule) b.rules < 0
    · rw [if_pos h2] at h; cases h
    · obtain ⟨r, hr, hn⟩ := posI_hit h2
      rw [Bool.and_eq_true] at h1
      refine ⟨rankB_fit h1.1, ?_, vn_size h1.2⟩
      have h3 : r.name.toList = p.rule.toList := by simpa [hasName] using hn
      have h4 : r.name.size = p.rule.size := by
        have e1 : r.name.toList.length = r.name.size := by rw [Lib.toList_data, Array.length_toList]; rfl
        have e2 : p.rule.toList.length = p.rule.size := by rw [Lib.toList_data, Array.length_toList]; rfl
        rw [← e1, ← e2, h3]
      have := (hb r hr).2.1
      omega

/-- A base without an error fits. -/
theorem baseE_fit {b : Bs} (h : baseE b = 0) : BsFit b := by
  unfold baseE at h
  by_cases hbig : 16 < b.prems.length ∨ 24 < b.rules.length ∨ 8 < b.proms.length
  · rw [if_pos hbig] at h; cases h
  · rw [if_neg hbig] at h
    by_cases h1 : errUp (premF b) b.prems.length = 0
    · rw [if_neg (fun k => k h1)] at h
      by_cases h2 : errUp (ruleF b) b.rules.length = 0
      · rw [if_neg (fun k => k h2)] at h
        have f2 : ∀ r ∈ b.rules, RuFit r := fun r hr => by
          obtain ⟨k, hk, rfl⟩ := List.getElem_of_mem hr
          have := errUp_zero _ h2 k hk
          unfold ruleF at this
          rw [dif_pos hk] at this
          exact ruleE_fit this
        refine ⟨fun p hp => ?_, f2, fun p hp => ?_, by omega, by omega, by omega⟩
        · obtain ⟨k, hk, rfl⟩ := List.getElem_of_mem hp
          have := errUp_zero _ h1 k hk
          unfold premF at this
          rw [dif_pos hk] at this
          exact premE_fit this
        · obtain ⟨k, hk, rfl⟩ := List.getElem_of_mem hp
          have := errUp_zero _ h k hk
          unfold promF at this
          rw [dif_pos hk] at this
          exact promE_fit f2 this
      · rw [if_pos h2] at h
        exact absurd h h2
    · rw [if_pos h1] at h
      exact absurd h h1

end Go.Proofs.YtmhloapjadhifaaGreatDoor

namespace Go.Proofs.YtmhloapjadhifaaGreatDoor
set_option linter.unusedVariables false
set_option linter.unusedSimpArgs false
open Go Go.RowKit

def textL (b : Bs) : ByteArray := ⟨(linesB (b.prems.map premLn) b.prems.length ++ linesB (b.rules.map ruleLn) b.rules.length ++ linesB (b.proms.map promLn) b.proms.length).toArray⟩
/-- What Format answers: the text and the error. -/
def fmtE5 (b : Bs) : Int := if baseE b = 0 then (if 4096 < (textL b).size then 2 else 0) else baseE b
def fmtT5 (b : Bs) : ByteArray := if fmtE5 b = 0 then textL b else ⟨#[]⟩

set_option maxRecDepth 100000 in
set_option maxHeartbeats 2000000 in
theorem bformat_any (b : Bs) (hb : BsOk b) (v : Value) (w : World) (hv : BaseAt w v b) (hw : WordsAt w) :
    Calls Tryz.prog 28 #[v] w fun e w' => e = .returned (.tuple #[.string (fmtT5 b), .int .i64 (fmtE5 b)]) ∧ Below w.heap.size w w' := by
  obtain ⟨a1, a2, a3, c1, c2, c3, hve, -⟩ := hv.form
  subst hve
  have hgr := bgrow w (.cells #[.slice a1 b.prems.length c1, .slice a2 b.rules.length c2, .slice a3 b.proms.length c3] 26)
  have HV := hidIt (hv.below hgr)
  have HW := hidIt (hw.go hgr)
  have HB := hidIt hgr
  have HK := hidIt (heap_alloc_new w (.cells #[.slice a1 b.prems.length c1, .slice a2 b.rules.length c2, .slice a3 b.proms.length c3] 26))
  have HFIT : Hid (baseE b = 0 → BsFit b) := baseE_fit
  have HFE : Hid (∀ z, baseE b = z → fmtE5 b = if z = 0 then (if 4096 < (textL b).size then 2 else 0) else z) := fun z hz => by unfold fmtE5; rw [hz]
  have HFT : Hid (fmtT5 b = if fmtE5 b = 0 then textL b else ⟨#[]⟩) := by show _ = _; rfl
  generalize fmtT5 b = FT at *
  generalize fmtE5 b = FE at *
  clear hv hw hgr
  go_enter Tryz.func28, Tryz.ntmps28
  go_wp2_with fail
  generalize (w.alloc (.cells #[.slice a1 b.prems.length c1, .slice a2 b.rules.length c2, .slice a3 b.proms.length c3] 26)) = w0 at *
  refine (bvalidate_any b hb _ _ HV.out).mono ?_
  rintro e w1 ⟨rfl, hb1⟩
  have HB1 := hidIt (HB.out.trans (Below.mono hb1 HB.out.size))
  have HV1 := hidIt (HV.out.below hb1)
  have HW1 := hidIt (HW.out.go hb1)
  have HK1 := hidIt (blk_kept2 HK.out hb1)
  clear hb1 HB HV HW HK
  obtain ⟨k0, k1, k2⟩ := bcell3 HK1.out
  have lk := lt_of_block HK1.out
  generalize baseE b = z at *
  by_cases hz : z = 0
  case neg =>
    have hzb : (z == 0) = false := beq_eq_false_iff_ne.2 hz
    have hfe : FE = z := by rw [HFE.out z rfl, if_neg hz]
    have hft : FT = ⟨#[]⟩ := by rw [HFT.out, if_neg (by rw [hfe]; exact hz)]
    have HFe := hidIt hfe
    have HFt := hidIt hft
    clear HFE HFT hfe hft
    go_wp2_with fail
    go_ret2
    refine ⟨?_, HB1.out⟩
    rw [HFe.out, HFt.out]
    rfl
  case pos =>
  subst hz
  have HF := hidIt (HFIT.out rfl)
  have hfe : FE = if 4096 < (textL b).size then 2 else 0 := by rw [HFE.out 0 rfl, if_pos rfl]
  have HFE2 := hidIt hfe
  clear HFIT HFE hfe
  go_wp2_with fail
  refine (text_any b HF.out _ _ HV1.out HW1.out).mono ?_
  rintro e w2 ⟨he, hb2⟩
  have he2 : e = .returned (.string (textL b)) := he
  subst he2
  clear he
  have HB2 := hidIt (HB1.out.trans (Below.mono hb2 HB1.out.size))
  clear hb2 k0 k1 k2 lk
  generalize textL b = S at *
  by_cases hl : 4096 < S.size
  · have hlI : (4096 : Int) < (S.size : Int) := by omega
    have hfe : FE = 2 := by rw [HFE2.out, if_pos hl]
    have hft : FT = ⟨#[]⟩ := by rw [HFT.out, if_neg (by rw [hfe]; decide)]
    have HFe := hidIt hfe
    have HFt := hidIt hft
    clear HFE2 HFT hfe hft hl
    go_wp2_with fail
    go_ret2
    refine ⟨?_, HB2.out⟩
    rw [HFe.out, HFt.out]
    rfl
  · have hlI : ¬ (4096 : Int) < (S.size : Int) := by omega
    have hfe : FE = 0 := by rw [HFE2.out, if_neg hl]
    have hft : FT = S := by rw [HFT.out, if_pos hfe]
    have HFe := hidIt hfe
    have HFt := hidIt hft
    clear HFE2 HFT hfe hft hl
    go_wp2_with fail
    go_ret2
    refine ⟨?_, HB2.out⟩
    rw [HFe.out, HFt.out]
    rfl

end Go.Proofs.YtmhloapjadhifaaGreatDoor

namespace Go.Proofs.YtmhloapjadhifaaGreatDoor
set_option linter.unusedVariables false
set_option linter.unusedSimpArgs false
open Go Go.RowKit

/-- What a line adds, and whether it may. -/
def addRu (b : Bs) (line : ByteArray) (st : Bool) (a : Ru × Rd) : Bs × Bool := (⟨b.prems, b.rules ++ [a.1], b.proms⟩, !a.2.bad && sameB line (ruleT a.1 a.1.rank.toNat) && decide (b.proms.length = 0))
def addPr (b : Bs) (line : ByteArray) (a : Pr × Rd) : Bs × Bool := (⟨b.prems, b.rules, b.proms ++ [a.1]⟩, !a.2.bad && sameB line (promT a.1 a.1.rank.toNat))
def addPm (b : Bs) (line : ByteArray) (a : Pm × Rd) : Bs × Bool := (⟨b.prems ++ [a.1], b.rules, b.proms⟩, !a.2.bad && sameB line (premT a.1 a.1.rank.toNat) && decide (b.rules.length + b.proms.length = 0))
def addL2 (b : Bs) (line : ByteArray) (ws : List ByteArray) : Bs × Bool :=
  if isStrict (hdW ws) || isRule (hdW ws) then addRu b line (isStrict (hdW ws)) (rdRule (isStrict (hdW ws)) ⟨ws.tail, false⟩)
  else if isPromote (hdW ws) then addPr b line (rdProm ⟨ws.tail, false⟩)
  else addPm b line (rdPrem (kindT (hdW ws)) ⟨ws.tail, false⟩)
def addL (b : Bs) (line : ByteArray) : Bs × Bool := addL2 b line (wordsOf line)

/-- The place of the first line feed, and the parts before and behind it. -/
def ixN (s : ByteArray) : Int := Lib.indexByte s.data.toList 10
def lineN (s : ByteArray) : ByteArray := if 0 ≤ ixN s then s.extract 0 (ixN s).toNat else s
def restN (s : ByteArray) : ByteArray := if 0 ≤ ixN s then s.extract ((ixN s).toNat + 1) s.size else ⟨#[]⟩

/-- Parse's loop: the base and 0, or the number of the first line that is none. -/
def linesE : Nat → Nat → Bs → ByteArray → Bs × Nat
  | 0, n, b, _ => (b, n)
  | f + 1, n, b, s =>
    if s.size = 0 then (b, 0)
    else if decide (0 ≤ ixN s) && (addL b (lineN s)).2 then linesE f (n + 1) (addL b (lineN s)).1 (restN s)
    else (b, n)

/-- What Parse answers: base, line and error. -/
def parse5a (a : Bs × Nat) : Bs × Nat × Int :=
  if a.2 ≠ 0 then (⟨[], [], []⟩, a.2, 3)
  else if baseE a.1 ≠ 0 then (⟨[], [], []⟩, 0, baseE a.1)
  else (a.1, 0, 0)
def parse5 (s : ByteArray) : Bs × Nat × Int :=
  if 4096 < s.size then (⟨[], [], []⟩, 0, 2) else parse5a (linesE (s.size + 1) 1 ⟨[], [], []⟩ s)

theorem litW_size (x : ByteArray) : (litW x).name.size ≤ 12 := by
  show (parsedName x).size ≤ 12
  unfold parsedName
  split
  · exact vn_size (by assumption)
  · exact Nat.zero_le _
theorem or_false_l {a b : Bool} (h : (a || b) = false) : a = false := by cases a <;> simp_all
theorem or_false_r {a b : Bool} (h : (a || b) = false) : b = false := by cases a <;> simp_all
theorem rdName_fit {r : Rd} {sg : ByteArray} (h : (rdName r sg).2.bad = false) : r.bad = false ∧ (rdName r sg).1.size ≤ 12 := by
  refine ⟨or_false_l h, vn_size ?_⟩
  have := or_false_r h
  have h2 : vn (trimT (hdW r.ws) sg) = true := by simpa using this
  exact h2
theorem rdRank_fit {r : Rd} {sg : ByteArray} (h : (rdRank r sg).2.bad = false) : r.bad = false ∧ 0 ≤ (rdRank r sg).1 ∧ (rdRank r sg).1 ≤ 9 := by
  refine ⟨or_false_l h, ?_⟩
  have := or_false_r h
  have h2 : (atoiOk (trimT (hdW r.ws) sg) && rankB (atoiV (trimT (hdW r.ws) sg)) true) = true := by simpa using this
  exact rankB_fit (Bool.and_eq_true _ _ |>.mp h2).2
theorem rdLit_fit {r : Rd} {sg : ByteArray} (h : (rdLit r sg).2.bad = false) : r.bad = false := or_false_l h
theorem rdRule_fit {st : Bool} {r : Rd} (hn : r.ws.length ≤ 5000) (h : (rdRule st r).2.bad = false) :
    (rdRule st r).1.name.size ≤ 12 ∧ (0 ≤ (rdRule st r).1.rank ∧ (rdRule st r).1.rank ≤ 9) ∧ (rdRule st r).1.head.name.size ≤ 12 ∧ (∀ x ∈ (rdRule st r).1.body, x.name.size ≤ 12) ∧ (rdRule st r).1.body.length ≤ 5000 := by
  have h3 : (rdRule2 st r).2.bad = false := rdLit_fit (r := rdWord (rdRule2 st r).2) h
  have h2 : (rdRule1 st r).2.bad = false := or_false_l h3
  have h1 : (rdName r colT).2.bad = false ∧ 0 ≤ (rdRule1 st r).1 ∧ (rdRule1 st r).1 ≤ 9 := by
    cases st
    · exact rdRank_fit h2
    · exact ⟨h2, by show (0 : Int) ≤ 0; omega, by show (0 : Int) ≤ 9; omega⟩
  have hl : (rdRule1 st r).2.ws.length ≤ 5000 := by
    cases st
    · show (r.ws.tail.tail).length ≤ 5000
      simp only [List.length_tail]; omega
    · show (r.ws.tail).length ≤ 5000
      simp only [List.length_tail]; omega
  refine ⟨(rdName_fit h1.1).2, h1.2, litW_size _, ?_, ?_⟩
  · intro x hx
    obtain ⟨y, -, rfl⟩ := List.mem_map.1 hx
    exact litW_size _
  · show (List.map _ _).length ≤ 5000
    rw [List.length_map, List.length_take]; omega
theorem rdProm_fit {r : Rd} (h : (rdProm r).2.bad = false) : (0 ≤ (rdProm r).1.rank ∧ (rdProm r).1.rank ≤ 9) ∧ (rdProm r).1.rule.size ≤ 12 ∧ (rdProm r).1.lit.name.size ≤ 12 := by
  have h2 : (rdProm1 r).2.bad = false := rdLit_fit (r := rdWord (rdProm1 r).2) h
  have h1 := rdRank_fit h2
  exact ⟨h1.2, (rdName_fit h1.1).2, litW_size _⟩
theorem kindT_cases (s : ByteArray) (h : kindT s ≠ 0) : kindT s = 1 ∨ kindT s = 2 ∨ kindT s = 3 := by
  unfold kindT at *
  split <;> simp_all
  split <;> simp_all
theorem rdPrem_fit {s : ByteArray} {r : Rd} (h : (rdPrem (kindT s) r).2.bad = false) : PmFit (rdPrem (kindT s) r).1 := by
  have h3 : (rdPrem3 (kindT s) r).2.bad = false := h
  have h2 : (rdPrem2 (kindT s) r).2.bad = false ∧ (rdPrem3 (kindT s) r).1.size ≤ 12 := by
    unfold rdPrem3 at h3 ⊢
    split at h3
    · rename_i h0
      rw [if_pos h0]
      exact ⟨h3, Nat.zero_le _⟩
    · rename_i h0
      rw [if_neg h0]
      exact rdName_fit h3
  have h1 : (rdPrem1 (kindT s) r).2.bad = false ∧ 0 ≤ (rdPrem2 (kindT s) r).1 ∧ (rdPrem2 (kindT s) r).1 ≤ 9 := by
    have h2' := h2.1
    unfold rdPrem2 at h2' ⊢
    split at h2'
    · rename_i h0
      rw [if_pos h0]
      exact rdRank_fit h2'
    · rename_i h0
      rw [if_neg h0]
      exact ⟨h2', by show (0 : Int) ≤ 0; omega, by show (0 : Int) ≤ 9; omega⟩
  have h0 := or_false_r (rdLit_fit h1.1)
  exact ⟨kindT_cases s (by simpa using h0), h1.2, h2.2, litW_size _⟩
end Go.Proofs.YtmhloapjadhifaaGreatDoor

namespace Go.Proofs.YtmhloapjadhifaaGreatDoor
set_option linter.unusedVariables false
set_option linter.unusedSimpArgs false
open Go Go.RowKit

set_option maxRecDepth 100000 in
set_option maxHeartbeats 1000000 in
theorem kindOf_any (s : ByteArray) (w : World) (hw : WordsAt w) :
    Calls Tryz.prog 139 #[.string s] w fun e w' => e = .returned (.int .i64 (kindT s)) ∧ w = w' := by
  obtain ⟨hlt, c0, c1, c2, c3⟩ := hw
  have HK : Hid (kindT s = if ([97, 120, 105, 111, 109] == s.toList) = true then 1 else if ([112, 114, 101, 109, 105, 115, 101] == s.toList) = true then 2 else if ([97, 115, 115, 117, 109, 101] == s.toList) = true then 3 else 0) := by show _ = _; rfl
  generalize kindT s = K at *
  have ix : ∀ (k : Nat) (u : Value), k < 4 → (#[.string ⟨#[]⟩, .string ⟨#[97, 120, 105, 111, 109]⟩, .string ⟨#[112, 114, 101, 109, 105, 115, 101]⟩, .string ⟨#[97, 115, 115, 117, 109, 101]⟩] : Array Value)[k]? = some u → (Instr.index 168 (.agg #[.string ⟨#[]⟩, .string ⟨#[97, 120, 105, 111, 109]⟩, .string ⟨#[112, 114, 101, 109, 105, 115, 101]⟩, .string ⟨#[97, 115, 115, 117, 109, 101]⟩]) (.int .i64 (k : Int))).run Tryz.prog w = .ok u w := fun k u hk hu => by
    rcases (by omega : k = 0 ∨ k = 1 ∨ k = 2 ∨ k = 3) with rfl | rfl | rfl | rfl
    all_goals
      simp at hu
      subst hu
      kernel_rfl
  go_enter Tryz.func139, Tryz.ntmps139
  go_wp2_with fail
  go_loop [6] (fun i => ∃ k : Nat, k ≤ 4 ∧ i = .int .i64 k ∧ Hid (1 < k → ([97, 120, 105, 111, 109] == s.toList) = false) ∧ Hid (2 < k → ([112, 114, 101, 109, 105, 115, 101] == s.toList) = false) ∧ Hid (3 < k → ([97, 115, 115, 117, 109, 101] == s.toList) = false)) (fun i => 4 - (intOf i).toNat)
  case atStart => exact ⟨0, Nat.zero_le _, rfl, fun h => absurd h (by omega), fun h => absurd h (by omega), fun h => absurd h (by omega)⟩
  case round =>
    obtain ⟨k, hk, rfl, H1, H2, H3⟩ := hrel
    rcases (by omega : k = 0 ∨ k = 1 ∨ k = 2 ∨ k = 3 ∨ k = 4) with rfl | rfl | rfl | rfl | rfl
    · have x0 : (Instr.index 168 (.agg #[.string ⟨#[]⟩, .string ⟨#[97, 120, 105, 111, 109]⟩, .string ⟨#[112, 114, 101, 109, 105, 115, 101]⟩, .string ⟨#[97, 115, 115, 117, 109, 101]⟩]) (.int .i64 0)).run Tryz.prog w = .ok (.string ⟨#[]⟩) w := ix 0 _ (by decide) rfl
      cases hb : (([] : List UInt8) == s.toList)
      · go_wp2_with fail
        go_round
        case rel => exact ⟨1, by omega, by go_num, fun h => absurd h (by omega), fun h => absurd h (by omega), fun h => absurd h (by omega)⟩
        case measure => simp [intOf]
      · go_wp2_with fail
        go_ret
        refine ⟨ret_int ?_, rfl⟩
        rw [HK.out]
        have hs : s.toList = [] := by have := hb; rw [beq_iff_eq] at this; rw [← this]
        rw [hs]
        decide +kernel
    · have x1 : (Instr.index 168 (.agg #[.string ⟨#[]⟩, .string ⟨#[97, 120, 105, 111, 109]⟩, .string ⟨#[112, 114, 101, 109, 105, 115, 101]⟩, .string ⟨#[97, 115, 115, 117, 109, 101]⟩]) (.int .i64 1)).run Tryz.prog w = .ok (.string ⟨#[97, 120, 105, 111, 109]⟩) w := ix 1 _ (by decide) rfl
      cases hb : ([97, 120, 105, 111, 109] == s.toList)
      · go_wp2_with fail
        go_round
        case rel => exact ⟨2, by omega, by go_num, by first | exact fun _ => hb | (intro _; trivial) | trivial, fun h => absurd h (by omega), fun h => absurd h (by omega)⟩
        case measure => simp [intOf]
      · go_wp2_with fail
        go_ret
        refine ⟨ret_int ?_, rfl⟩
        rw [HK.out, if_pos hb]
    · have x2 : (Instr.index 168 (.agg #[.string ⟨#[]⟩, .string ⟨#[97, 120, 105, 111, 109]⟩, .string ⟨#[112, 114, 101, 109, 105, 115, 101]⟩, .string ⟨#[97, 115, 115, 117, 109, 101]⟩]) (.int .i64 2)).run Tryz.prog w = .ok (.string ⟨#[112, 114, 101, 109, 105, 115, 101]⟩) w := ix 2 _ (by decide) rfl
      cases hb : ([112, 114, 101, 109, 105, 115, 101] == s.toList)
      · go_wp2_with fail
        go_round
        case rel => exact ⟨3, by omega, by go_num, fun _ => H1.out (by omega), by first | exact fun _ => hb | (intro _; trivial) | trivial, fun h => absurd h (by omega)⟩
        case measure => simp [intOf]
      · go_wp2_with fail
        go_ret
        refine ⟨ret_int ?_, rfl⟩
        rw [HK.out, if_neg (by rw [H1.out (by omega)]; decide), if_pos hb]
    · have x3 : (Instr.index 168 (.agg #[.string ⟨#[]⟩, .string ⟨#[97, 120, 105, 111, 109]⟩, .string ⟨#[112, 114, 101, 109, 105, 115, 101]⟩, .string ⟨#[97, 115, 115, 117, 109, 101]⟩]) (.int .i64 3)).run Tryz.prog w = .ok (.string ⟨#[97, 115, 115, 117, 109, 101]⟩) w := ix 3 _ (by decide) rfl
      cases hb : ([97, 115, 115, 117, 109, 101] == s.toList)
      · go_wp2_with fail
        go_round
        case rel => exact ⟨4, by omega, by go_num, fun _ => H1.out (by omega), fun _ => H2.out (by omega), by first | exact fun _ => hb | (intro _; trivial) | trivial⟩
        case measure => simp [intOf]
      · go_wp2_with fail
        go_ret
        refine ⟨ret_int ?_, rfl⟩
        rw [HK.out, if_neg (by rw [H1.out (by omega)]; decide), if_neg (by rw [H2.out (by omega)]; decide), if_pos hb]
    · go_wp2_with fail
      go_ret
      refine ⟨ret_int ?_, rfl⟩
      rw [HK.out, if_neg (by rw [H1.out (by omega)]; decide), if_neg (by rw [H2.out (by omega)]; decide), if_neg (by rw [H3.out (by omega)]; decide)]
end Go.Proofs.YtmhloapjadhifaaGreatDoor

namespace Go.Proofs.YtmhloapjadhifaaGreatDoor
set_option linter.unusedVariables false
set_option linter.unusedSimpArgs false
open Go Go.RowKit

theorem fieldsGoD_len : ∀ (f : Nat) (cur l : List UInt8), (Lib.fieldsGoD f cur l).length ≤ f + 1 ∧ ∀ x ∈ Lib.fieldsGoD f cur l, x.length ≤ cur.length + l.length
  | 0, cur, l => by
    unfold Lib.fieldsGoD
    split
    · exact ⟨by simp, fun x hx => by simp at hx⟩
    · exact ⟨by simp, fun x hx => by rw [List.mem_singleton.1 hx]; omega⟩
  | f + 1, cur, l => by
    unfold Lib.fieldsGoD
    split
    · split
      · exact ⟨by simp, fun x hx => by simp at hx⟩
      · exact ⟨by simp, fun x hx => by rw [List.mem_singleton.1 hx]; omega⟩
    · split
      · have ih := fieldsGoD_len f [] (l.drop (Lib.decodeL l).2)
        refine ⟨?_, fun x hx => ?_⟩
        · rw [List.length_append]
          have : (if cur = [] then ([] : List (List UInt8)) else [cur]).length ≤ 1 := by split <;> simp
          omega
        · rcases List.mem_append.1 hx with h | h
          · split at h
            · simp at h
            · rw [List.mem_singleton.1 h]; omega
          · have := ih.2 x h
            simp only [List.length_nil, List.length_drop] at this
            omega
      · have ih := fieldsGoD_len f (cur ++ l.take (Lib.decodeL l).2) (l.drop (Lib.decodeL l).2)
        refine ⟨by omega, fun x hx => ?_⟩
        have := ih.2 x hx
        simp only [List.length_append, List.length_take, List.length_drop] at this
        omega
theorem words_len (s : ByteArray) (hs : s.size ≤ 4096) : (wordsOf s).length ≤ 5000 ∧ WsOk (wordsOf s) := by
  have hl : s.data.toList.length = s.size := Array.length_toList
  have h := fieldsGoD_len (s.data.toList.length + 1) [] s.data.toList
  refine ⟨?_, fun x hx => ?_⟩
  · unfold wordsOf Lib.fieldsD
    rw [List.length_map]
    omega
  · obtain ⟨y, hy, rfl⟩ := List.mem_map.1 hx
    have := h.2 y hy
    show y.toArray.size ≤ 4096
    rw [List.size_toArray]
    simp only [List.length_nil] at this
    omega

theorem fields5_any (s : ByteArray) (hs : s.size ≤ 4096) (w : World) (hE : EnvOk w) :
    Calls Tryz.prog 134 #[.string s] w fun e w' => ∃ A : Nat, e = .returned (.slice (some ⟨A, 0, none⟩) (wordsOf s).length (wordsOf s).length) ∧ A < w'.heap.size ∧ (∀ i (h : i < (wordsOf s).length), w'.cell? ⟨A, i, none⟩ = some (.string (wordsOf s)[i])) ∧ Below w.heap.size w w' := by
  refine (Tryz.strings_Fields_any s w (by omega) hE.tab hE.white).mono fun e w' ⟨A, he, hA, hown, hb⟩ => ?_
  have hl : (wordsOf s).length = (Lib.fieldsD s.data.toList).length := by unfold wordsOf; rw [List.length_map]
  refine ⟨A, by rw [hl]; exact he, (owns_blk hown A rfl).2, fun i hi => ?_, hb⟩
  exact owns_cell hown rfl i _ (by
    have hg : (wordsOf s)[i] = ⟨((Lib.fieldsD s.data.toList)[i]'(by omega)).toArray⟩ := by simp only [wordsOf, List.getElem_map]
    rw [List.getElem?_map, List.getElem?_eq_getElem (by omega), hg]
    rfl)

theorem below_app5 {n : Nat} {w a a' : World} {row : Option Nat} (h : Below n w a) (hg : a.grownBy a' row) (hr : ∀ g, row = some g → n ≤ g) (hna : n ≤ a.heap.size) : Below n w a' :=
  ⟨hg.os.trans h.os, hg.tape.trans h.tape, hg.output.trans h.output, Nat.le_trans h.size hg.size, fun k hk => (hg.block k (by omega) (fun e => by have := hr k e.symm; omega)).trans (h.block k hk)⟩
theorem below_set5 {n b i : Nat} {u : Value} {w a : World} (h : Below n w a) (hb : n ≤ b) : Below n w (a.setCell ⟨b, i, none⟩ u) :=
  ⟨h.os, h.tape, h.output, by rw [size_setCell]; exact h.size, fun k hk => (Below.heap_setCell a ⟨b, i, none⟩ u k (by show k ≠ b; omega)).trans (h.block k hk)⟩
theorem BodyIn.len {w : World} {S : Nat → Prop} {a : Option Addr} {n c : Nat} {xs : List Lt} (h : BodyIn w S (.slice a n c) xs) : n = xs.length := by
  rcases h with ⟨h1, h2⟩ | ⟨b, off, cap, h1, -⟩
  · injection h1 with e1 e2 e3
    subst h2
    exact e2
  · injection h1 with e1 e2 e3

end Go.Proofs.YtmhloapjadhifaaGreatDoor

namespace Go.Proofs.YtmhloapjadhifaaGreatDoor
set_option linter.unusedVariables false
set_option linter.unusedSimpArgs false
open Go Go.RowKit

set_option maxRecDepth 100000 in
set_option maxHeartbeats 4000000 in
theorem addLine_rule (E B Rb : Nat) (b : Bs) (pv rv qv : Value) (line : ByteArray) (hline : line.size ≤ 4096) (w : World) (hb : BsIn w B Rb b pv rv qv) (hE : EnvUp E w) (hEB : E ≤ Rb) (hB : B ≤ w.heap.size) (hn1 : b.prems.length ≤ 5000) (hn2 : b.rules.length ≤ 5000) (hn3 : b.proms.length ≤ 5000)
    (st : Bool) (hw1 : isStrict (hdW (wordsOf line)) = st) (hw2 : (st || isRule (hdW (wordsOf line))) = true) :
    Calls Tryz.prog 85 #[.pointer (some ⟨Rb, 0, none⟩), .string line] w fun e w' => e = .returned (.bool (addL b line).2) ∧ (∃ pv' rv' qv', BsIn w' B Rb (addL b line).1 pv' rv' qv') ∧ Below Rb w w' := by
  obtain ⟨ap, cp, rfl, hp1, hp2⟩ := shape_own hb.p
  obtain ⟨aq, cq, rfl, hq1, hq2⟩ := shape_own hb.q
  obtain ⟨ar, cr, rfl, hr1, hr2⟩ := (show ∃ (a : Option Addr) (c : Nat), rv = .slice a b.rules.length c ∧ b.rules.length ≤ c ∧ c ≤ maxLen by obtain ⟨bs, -, ho, -⟩ := hb.r; exact shape_own ho)
  have hRB := hb.lt
  obtain ⟨hwl, hwk⟩ := words_len line hline
  have HWK := hidIt hwk
  have HF : Hid (∀ wx : World, EnvOk wx → Calls Tryz.prog 134 #[.string line] wx fun e w' => ∃ A : Nat, e = .returned (.slice (some ⟨A, 0, none⟩) (wordsOf line).length (wordsOf line).length) ∧ A < w'.heap.size ∧ (∀ i (h : i < (wordsOf line).length), w'.cell? ⟨A, i, none⟩ = some (.string (wordsOf line)[i])) ∧ Below wx.heap.size wx w') := fun wx hx => fields5_any line hline wx hx
  have HADD : Hid (addL b line = addL2 b line (wordsOf line)) := by show _ = _; rfl
  generalize addL b line = RES at *
  generalize wordsOf line = ws at *
  have hADD : RES = addRu b line st (rdRule st ⟨ws.tail, false⟩) := by
    rw [HADD.out]
    unfold addL2
    rw [hw1, if_pos hw2]
  have HAD := hidIt hADD
  have HB := hidIt hb
  have HEn := hidIt hE
  have hEw := hE.le
  clear hwk hADD HADD hb hE
  go_enter Tryz.func85, Tryz.ntmps85
  go_wp2_with fail
  refine (HF.out _ HEn.out.ok).mono ?_
  rintro e w1 ⟨A, rfl, hA, hAc, hb1⟩
  have hs1 := hb1.size
  have HRd : Hid (RdAt (w1.alloc (.cells #[.slice (some ⟨A, 0, none⟩) ws.length ws.length, .bool false] 150)) (w1.heap.size + 1) w1.heap.size ⟨ws, false⟩) :=
    ⟨by simp, by omega, some ⟨A, 0, none⟩, ws.length, heap_alloc_new w1 _, Nat.le_refl _, by show ws.length ≤ maxLen; unfold maxLen; omega, fun i hi => ⟨A, 0, rfl, by omega, by omega, by rw [Nat.zero_add]; exact ((bgrow w1 _).cell (p := ⟨A, i, none⟩) hA).trans (hAc i hi)⟩⟩
  have HBel := hidIt (hb1.trans (Below.mono (bgrow w1 (.cells #[.slice (some ⟨A, 0, none⟩) ws.length ws.length, .bool false] 150)) hs1))
  have hsz1 := size_alloc w1 (.cells #[.slice (some ⟨A, 0, none⟩) ws.length ws.length, .bool false] 150)
  clear hAc hb1 HF
  go_wp2_with fail
  generalize (w1.alloc (.cells #[.slice (some ⟨A, 0, none⟩) ws.length ws.length, .bool false] 150)) = w2 at *
  generalize hR0 : w1.heap.size = R at *
  clear hR0 hA hsz1
  refine (word_any (R + 1) R ⟨ws, false⟩ _ HRd.out).mono ?_
  rintro e w3 ⟨rfl, hr3, hg3⟩
  have hws2 := HBel.out.size
  have HRd3 : Hid (RdAt w3 (R + 1) R ⟨ws.tail, false⟩) := hr3
  have HBel3 := hidIt (below_grown5 HBel.out hg3 hs1 hws2)
  have HE3 := hidIt (HEn.out.kept (only_of_below HBel3.out none) (fun g e => by cases e))
  clear hr3 hg3 HRd HBel HEn
  have HWT : Hid (WsOk ws.tail) := HWK.out.tail
  have hwt : ws.tail.length ≤ 5000 := by rw [List.length_tail]; omega
  have HFIT : Hid ((rdRule st ⟨ws.tail, false⟩).2.bad = false → _) := fun h => rdRule_fit (st := st) (r := ⟨ws.tail, false⟩) hwt h
  have HCALL : Hid (∀ wx, RdAt wx (R + 1) R ⟨ws.tail, false⟩ → EnvUp E wx → _) := fun wx h1 h2 => rrule_any E (R + 1) R st ⟨ws.tail, false⟩ wx h1 HWT.out hwt h2 (by have := HE3.out.le; omega)
  generalize rdRule st ⟨ws.tail, false⟩ = X at *
  obtain ⟨⟨nm, sx, rk, bd, ⟨hg, hs⟩⟩, r4⟩ := X
  simp only at HCALL HFIT
  generalize hdW ws = hd at *
  unfold isStrict at hw1
  unfold isRule at hw2
  have HW2 := hidIt hw2
  clear hw2
  cases st
  case true =>
    go_wp2_with fail
    refine (HCALL.out _ HRd3.out HE3.out).mono ?_
    rintro e w4 ⟨a, n, c, rfl, hbody, hr4, hg4⟩
    have hnb := hbody.len
    subst hnb
    have hs3 : w.heap.size ≤ w3.heap.size := HBel3.out.size
    have hbel4 := below_grown5 HBel3.out hg4 hs1 hs3
    have hs4 : w.heap.size ≤ w4.heap.size := hbel4.size
    obtain ⟨rws, rbad⟩ := r4
    obtain ⟨-, -, la, lc, hrk, -⟩ := hr4
    have HX5 := hidIt (heap_alloc_new w4 (.cells #[.string nm, .bool sx, .int .i64 rk, .slice a bd.length c, .bool hg, .string hs] 66))
    have HRk5 := hidIt (blk_kept2 hrk (bgrow w4 (.cells #[.string nm, .bool sx, .int .i64 rk, .slice a bd.length c, .bool hg, .string hs] 66)))
    have HBs5 := hidIt (HB.out.go (hbel4.trans (Below.mono (bgrow w4 (.cells #[.string nm, .bool sx, .int .i64 rk, .slice a bd.length c, .bool hg, .string hs] 66)) hs4)))
    have HBel5 := hidIt (hbel4.trans (Below.mono (bgrow w4 (.cells #[.string nm, .bool sx, .int .i64 rk, .slice a bd.length c, .bool hg, .string hs] 66)) hs4))
    have HBODY5 := hidIt (hbody.kept (S' := fun k => w3.heap.size ≤ k) (fun k _ hk => (bgrow w4 (.cells #[.string nm, .bool sx, .int .i64 rk, .slice a bd.length c, .bool hg, .string hs] 66)).block k hk) (bgrow w4 _).size (fun k h _ => h))
    clear hg4 hrk hbody hbel4 HRd3 HE3 HBel3 HCALL
    go_wp2_with fail
    generalize (w4.alloc (.cells #[.string nm, .bool sx, .int .i64 rk, .slice a bd.length c, .bool hg, .string hs] 66)) = w5 at *
    generalize w4.heap.size = P at *
    have hRlt : R < w5.heap.size := lt_of_block HRk5.out
    have hPlt : P < w5.heap.size := lt_of_block HX5.out
    have hRbw : Rb < w.heap.size := by omega
    have HBs6 := hidIt ((HBs5.out.go (Below.refl w5.heap.size w5).drew).go (bgrow w5.drew (.cells #[.string nm, .bool sx, .int .i64 rk, .slice a bd.length c, .bool hg, .string hs] 66)))
    have HRk6 := hidIt (blk_kept2 (blk_kept2 HRk5.out (Below.refl w5.heap.size w5).drew) (bgrow w5.drew (.cells #[.string nm, .bool sx, .int .i64 rk, .slice a bd.length c, .bool hg, .string hs] 66)))
    have HX6 := hidIt (blk_kept2 (blk_kept2 HX5.out (Below.refl w5.heap.size w5).drew) (bgrow w5.drew (.cells #[.string nm, .bool sx, .int .i64 rk, .slice a bd.length c, .bool hg, .string hs] 66)))
    have hs5 : w.heap.size ≤ w5.heap.size := HBel5.out.size
    have hs6 : w.heap.size ≤ (w5.drew.alloc (.cells #[.string nm, .bool sx, .int .i64 rk, .slice a bd.length c, .bool hg, .string hs] 66)).heap.size := by simp; omega
    have HBel6 := hidIt ((HBel5.out.trans (Below.mono (Below.refl w5.heap.size w5).drew hs5)).trans (Below.mono (bgrow w5.drew (.cells #[.string nm, .bool sx, .int .i64 rk, .slice a bd.length c, .bool hg, .string hs] 66)) hs5))
    have HBODY6 := hidIt ((HBODY5.out.kept (S' := fun k => w3.heap.size ≤ k) (fun k _ hk => (Below.refl w5.heap.size w5).drew.block k hk) (Below.refl w5.heap.size w5).drew.size (fun k h _ => h)).kept (S' := fun k => w3.heap.size ≤ k) (fun k _ hk => (bgrow w5.drew (.cells #[.string nm, .bool sx, .int .i64 rk, .slice a bd.length c, .bool hg, .string hs] 66)).block k hk) (bgrow w5.drew _).size (fun k h _ => h))
    obtain ⟨bs, hbsl, ho, hf⟩ := HBs6.out.r
    have HO6 := hidIt ho
    have HF6 := hidIt hf
    have HOB : Hid (∀ g, (Value.slice ar b.rules.length cr).ownBlock = some g → B ≤ g ∧ g < w.heap.size) := HB.out.r.blk
    have HOP : Hid (∀ g, (Value.slice ap b.prems.length cp).ownBlock = some g → g < w.heap.size) := fun g e => (owns_blk HB.out.p g e).2
    have HOQ : Hid (∀ g, (Value.slice aq b.proms.length cq).ownBlock = some g → g < w.heap.size) := fun g e => (owns_blk HB.out.q g e).2
    clear ho hf
    obtain ⟨k0, k1, k2⟩ := bcell3 HBs5.out.box
    have XC := bcell6 HX5.out
    obtain ⟨x0, x1, x2, x3, x4, x5⟩ := XC
    have hlb := lt_of_block HBs5.out.box
    clear HBs5 HBel5 HX5 HRk5 HBODY5
    go_region_law (first
      | (refine step_append_sb (by rfl) (.tmp 67) (.tmp 69) elemRu (by rfl) B (.slice ar b.rules.length cr) b.rules.length _ (by rfl) HO6.out _ 1 (by rfl) #[.string nm, .bool sx, .int .i64 rk, .slice a bd.length c, .bool hg, .string hs] _ (heap_alloc_new _ _) rfl (one_of (by rfl)) (by omega) (by simp; omega) ?_
         intro g7 c7 w7 hown7 hg7 hbl7
         have hbox7 := (hg7.block Rb (lt_of_block HBs6.out.box) (fun e => by have := (HOB.out Rb e.symm).1; omega)).trans HBs6.out.box
         have k7 := (bcell3 hbox7).2.1
         have f7 := free_any hbox7 1
         have l7 := lt_of_block hbox7))
    all_goals
      have hrk7 := (hg7.block R (lt_of_block HRk6.out) (fun e => by have := (HOB.out R e.symm).2; omega)).trans HRk6.out
      have hx7 := (hg7.block P (lt_of_block HX6.out) (fun e => by have := (HOB.out P e.symm).2; omega)).trans HX6.out
      have HB8 := hidIt (HBs6.out.addR (r := ⟨nm, sx, rk, bd, ⟨hg, hs⟩⟩) (bv := .slice a bd.length c) hbsl HF6.out hown7 hg7 hbl7 (HBODY6.out.mono fun k hk => ⟨⟨by omega, fun e => by have := HOP.out k e; omega, fun e => by have := HOQ.out k e; omega⟩, fun e => by have := (HOB.out k e).2; omega⟩))
      have HRk8 := hidIt (keepS (p := ⟨Rb, 1, none⟩) (u := .slice (some ⟨g7, 0, none⟩) (b.rules.length + 1) c7) hrk7 (by show R ≠ Rb; omega))
      have HX8 := hidIt (keepS (p := ⟨Rb, 1, none⟩) (u := .slice (some ⟨g7, 0, none⟩) (b.rules.length + 1) c7) hx7 (by show P ≠ Rb; omega))
      have HBel8 : Hid (Below Rb w (w7.setCell ⟨Rb, 1, none⟩ (.slice (some ⟨g7, 0, none⟩) (b.rules.length + 1) c7))) := hidIt (below_set5 (below_app5 (HBel6.out.mono (by omega)) hg7 (fun g e => by have := (HOB.out g e).1; omega) (by omega)) (Nat.le_refl _))
      have hs7 : w.heap.size ≤ w7.heap.size := Nat.le_trans hs6 hg7.size
      have HBODY8 : Hid (BodyAt (w7.setCell ⟨Rb, 1, none⟩ (.slice (some ⟨g7, 0, none⟩) (b.rules.length + 1) c7)) (.slice a bd.length c) bd) := hidIt (BodyIn.at_ (S := fun k => w3.heap.size ≤ k) (HBODY6.out.kept (fun k hS hk => (Below.heap_setCell w7 ⟨Rb, 1, none⟩ _ k (by show k ≠ Rb; omega)).trans (hg7.block k hk (fun e => by have := (HOB.out k e.symm).2; omega))) (by rw [size_setCell]; exact hg7.size) (fun k h _ => h)))
      clear hown7 hg7 hbl7 hrk7 hx7 hbox7 HBs6 HRk6 HX6 HBel6 HBODY6 HO6 x0 x1 x2 x3 x4 x5 k0 k1 k2
      cases rbad
      case true =>
        obtain ⟨b0, b1, b2⟩ := bcell3 HB8.out.box
        obtain ⟨r0, r1⟩ := (⟨cell_two0 HRk8.out, cell_two1 HRk8.out⟩ : _ ∧ _)
        have lr8 := lt_of_block HRk8.out
        go_wp2_with fail
        go_ret
        rw [HAD.out]
        refine ⟨rfl, ⟨_, _, _, HB8.out⟩, HBel8.out⟩
      case false =>
        have hfit := HFIT.out rfl
        obtain ⟨b0, b1, b2⟩ := bcell3 HB8.out.box
        obtain ⟨r0, r1⟩ := (⟨cell_two0 HRk8.out, cell_two1 HRk8.out⟩ : _ ∧ _)
        have lr8 := lt_of_block HRk8.out
        have lb8 := lt_of_block HB8.out.box
        have lx8 := lt_of_block HX8.out
        have XC8 := bcell6 HX8.out
        obtain ⟨x0, x1, x2, x3, x4, x5⟩ := XC8
        have HQ : Hid (rk = ((rk.toNat : Nat) : Int)) := (by have := hfit.2.1; omega : rk = ((rk.toNat : Nat) : Int))
        have HL : Hid (∀ wx, BodyAt wx (.slice a bd.length c) bd → _) := fun wx hx => ruleLine_any ⟨nm, sx, rk, bd, ⟨hg, hs⟩⟩ rk.toNat (by have := hfit.2.1; omega) HQ.out hfit.1 hfit.2.2.1 hfit.2.2.2.1 hfit.2.2.2.2 a c wx hx
        clear hfit HFIT
        have HRS : Hid (RES = (⟨b.prems, b.rules ++ [⟨nm, sx, rk, bd, ⟨hg, hs⟩⟩], b.proms⟩, true && (line.toList == (ruleT ⟨nm, sx, rk, bd, ⟨hg, hs⟩⟩ rk.toNat).toList) && decide (b.proms.length = 0))) := by show _ = _; rw [HAD.out]; rfl
        clear HAD
        generalize ruleT ⟨nm, sx, rk, bd, ⟨hg, hs⟩⟩ rk.toNat = T at *
        go_wp2_with fail
        refine (HL.out _ HBODY8.out).mono ?_
        rintro e w9 ⟨rfl, hb9⟩
        have HB9 := hidIt (HB8.out.go hb9)
        have HBel9 := hidIt (HBel8.out.trans (Below.mono hb9 (by have := hs7; rw [size_setCell]; omega)))
        clear hb9 HB8 HBel8 HRk8 HX8 HL b0 b1 b2 r0 r1 lr8 lb8 lx8 x0 x1 x2 x3 x4 x5
        obtain ⟨b0, b1, b2⟩ := bcell3 HB9.out.box
        have lb9 := lt_of_block HB9.out.box
        cases hq : (line.toList == T.toList)
        case false =>
          go_wp2_with fail
          go_ret
          rw [HRS.out]
          refine ⟨ret_bool ?_, ⟨_, _, _, HB9.out⟩, HBel9.out⟩
          simp [hq]
        case true =>
          by_cases hz : b.proms.length = 0
          case pos =>
            have hzI : ((b.proms.length : Nat) : Int) = 0 := by omega
            go_wp2_with fail
            go_ret
            rw [HRS.out]
            refine ⟨ret_bool ?_, ⟨_, _, _, HB9.out⟩, HBel9.out⟩
            simp [hq, hz]
          case neg =>
            have hzI : ((b.proms.length : Nat) : Int) ≠ 0 := by omega
            go_wp2_with fail
            go_ret
            rw [HRS.out]
            refine ⟨ret_bool ?_, ⟨_, _, _, HB9.out⟩, HBel9.out⟩
            simp [hq, hz]
  case false =>
    have HW3 : Hid ((hd.toList == [114, 117, 108, 101]) = true) := by show _ = _; simpa using HW2.out
    have hw3 := HW3.out
    go_wp2_with fail
    refine (HCALL.out _ HRd3.out HE3.out).mono ?_
    rintro e w4 ⟨a, n, c, rfl, hbody, hr4, hg4⟩
    have hnb := hbody.len
    subst hnb
    have hs3 : w.heap.size ≤ w3.heap.size := HBel3.out.size
    have hbel4 := below_grown5 HBel3.out hg4 hs1 hs3
    have hs4 : w.heap.size ≤ w4.heap.size := hbel4.size
    obtain ⟨rws, rbad⟩ := r4
    obtain ⟨-, -, la, lc, hrk, -⟩ := hr4
    have HX5 := hidIt (heap_alloc_new w4 (.cells #[.string nm, .bool sx, .int .i64 rk, .slice a bd.length c, .bool hg, .string hs] 66))
    have HRk5 := hidIt (blk_kept2 hrk (bgrow w4 (.cells #[.string nm, .bool sx, .int .i64 rk, .slice a bd.length c, .bool hg, .string hs] 66)))
    have HBs5 := hidIt (HB.out.go (hbel4.trans (Below.mono (bgrow w4 (.cells #[.string nm, .bool sx, .int .i64 rk, .slice a bd.length c, .bool hg, .string hs] 66)) hs4)))
    have HBel5 := hidIt (hbel4.trans (Below.mono (bgrow w4 (.cells #[.string nm, .bool sx, .int .i64 rk, .slice a bd.length c, .bool hg, .string hs] 66)) hs4))
    have HBODY5 := hidIt (hbody.kept (S' := fun k => w3.heap.size ≤ k) (fun k _ hk => (bgrow w4 (.cells #[.string nm, .bool sx, .int .i64 rk, .slice a bd.length c, .bool hg, .string hs] 66)).block k hk) (bgrow w4 _).size (fun k h _ => h))
    clear hg4 hrk hbody hbel4 HRd3 HE3 HBel3 HCALL
    go_wp2_with fail
    generalize (w4.alloc (.cells #[.string nm, .bool sx, .int .i64 rk, .slice a bd.length c, .bool hg, .string hs] 66)) = w5 at *
    generalize w4.heap.size = P at *
    have hRlt : R < w5.heap.size := lt_of_block HRk5.out
    have hPlt : P < w5.heap.size := lt_of_block HX5.out
    have hRbw : Rb < w.heap.size := by omega
    have HBs6 := hidIt ((HBs5.out.go (Below.refl w5.heap.size w5).drew).go (bgrow w5.drew (.cells #[.string nm, .bool sx, .int .i64 rk, .slice a bd.length c, .bool hg, .string hs] 66)))
    have HRk6 := hidIt (blk_kept2 (blk_kept2 HRk5.out (Below.refl w5.heap.size w5).drew) (bgrow w5.drew (.cells #[.string nm, .bool sx, .int .i64 rk, .slice a bd.length c, .bool hg, .string hs] 66)))
    have HX6 := hidIt (blk_kept2 (blk_kept2 HX5.out (Below.refl w5.heap.size w5).drew) (bgrow w5.drew (.cells #[.string nm, .bool sx, .int .i64 rk, .slice a bd.length c, .bool hg, .string hs] 66)))
    have hs5 : w.heap.size ≤ w5.heap.size := HBel5.out.size
    have hs6 : w.heap.size ≤ (w5.drew.alloc (.cells #[.string nm, .bool sx, .int .i64 rk, .slice a bd.length c, .bool hg, .string hs] 66)).heap.size := by simp; omega
    have HBel6 := hidIt ((HBel5.out.trans (Below.mono (Below.refl w5.heap.size w5).drew hs5)).trans (Below.mono (bgrow w5.drew (.cells #[.string nm, .bool sx, .int .i64 rk, .slice a bd.length c, .bool hg, .string hs] 66)) hs5))
    have HBODY6 := hidIt ((HBODY5.out.kept (S' := fun k => w3.heap.size ≤ k) (fun k _ hk => (Below.refl w5.heap.size w5).drew.block k hk) (Below.refl w5.heap.size w5).drew.size (fun k h _ => h)).kept (S' := fun k => w3.heap.size ≤ k) (fun k _ hk => (bgrow w5.drew (.cells #[.string nm, .bool sx, .int .i64 rk, .slice a bd.length c, .bool hg, .string hs] 66)).block k hk) (bgrow w5.drew _).size (fun k h _ => h))
    obtain ⟨bs, hbsl, ho, hf⟩ := HBs6.out.r
    have HO6 := hidIt ho
    have HF6 := hidIt hf
    have HOB : Hid (∀ g, (Value.slice ar b.rules.length cr).ownBlock = some g → B ≤ g ∧ g < w.heap.size) := HB.out.r.blk
    have HOP : Hid (∀ g, (Value.slice ap b.prems.length cp).ownBlock = some g → g < w.heap.size) := fun g e => (owns_blk HB.out.p g e).2
    have HOQ : Hid (∀ g, (Value.slice aq b.proms.length cq).ownBlock = some g → g < w.heap.size) := fun g e => (owns_blk HB.out.q g e).2
    clear ho hf
    obtain ⟨k0, k1, k2⟩ := bcell3 HBs5.out.box
    have XC := bcell6 HX5.out
    obtain ⟨x0, x1, x2, x3, x4, x5⟩ := XC
    have hlb := lt_of_block HBs5.out.box
    clear HBs5 HBel5 HX5 HRk5 HBODY5
    go_region_law (first
      | (refine step_append_sb (by rfl) (.tmp 67) (.tmp 69) elemRu (by rfl) B (.slice ar b.rules.length cr) b.rules.length _ (by rfl) HO6.out _ 1 (by rfl) #[.string nm, .bool sx, .int .i64 rk, .slice a bd.length c, .bool hg, .string hs] _ (heap_alloc_new _ _) rfl (one_of (by rfl)) (by omega) (by simp; omega) ?_
         intro g7 c7 w7 hown7 hg7 hbl7
         have hbox7 := (hg7.block Rb (lt_of_block HBs6.out.box) (fun e => by have := (HOB.out Rb e.symm).1; omega)).trans HBs6.out.box
         have k7 := (bcell3 hbox7).2.1
         have f7 := free_any hbox7 1
         have l7 := lt_of_block hbox7))
    all_goals
      have hrk7 := (hg7.block R (lt_of_block HRk6.out) (fun e => by have := (HOB.out R e.symm).2; omega)).trans HRk6.out
      have hx7 := (hg7.block P (lt_of_block HX6.out) (fun e => by have := (HOB.out P e.symm).2; omega)).trans HX6.out
      have HB8 := hidIt (HBs6.out.addR (r := ⟨nm, sx, rk, bd, ⟨hg, hs⟩⟩) (bv := .slice a bd.length c) hbsl HF6.out hown7 hg7 hbl7 (HBODY6.out.mono fun k hk => ⟨⟨by omega, fun e => by have := HOP.out k e; omega, fun e => by have := HOQ.out k e; omega⟩, fun e => by have := (HOB.out k e).2; omega⟩))
      have HRk8 := hidIt (keepS (p := ⟨Rb, 1, none⟩) (u := .slice (some ⟨g7, 0, none⟩) (b.rules.length + 1) c7) hrk7 (by show R ≠ Rb; omega))
      have HX8 := hidIt (keepS (p := ⟨Rb, 1, none⟩) (u := .slice (some ⟨g7, 0, none⟩) (b.rules.length + 1) c7) hx7 (by show P ≠ Rb; omega))
      have HBel8 : Hid (Below Rb w (w7.setCell ⟨Rb, 1, none⟩ (.slice (some ⟨g7, 0, none⟩) (b.rules.length + 1) c7))) := hidIt (below_set5 (below_app5 (HBel6.out.mono (by omega)) hg7 (fun g e => by have := (HOB.out g e).1; omega) (by omega)) (Nat.le_refl _))
      have hs7 : w.heap.size ≤ w7.heap.size := Nat.le_trans hs6 hg7.size
      have HBODY8 : Hid (BodyAt (w7.setCell ⟨Rb, 1, none⟩ (.slice (some ⟨g7, 0, none⟩) (b.rules.length + 1) c7)) (.slice a bd.length c) bd) := hidIt (BodyIn.at_ (S := fun k => w3.heap.size ≤ k) (HBODY6.out.kept (fun k hS hk => (Below.heap_setCell w7 ⟨Rb, 1, none⟩ _ k (by show k ≠ Rb; omega)).trans (hg7.block k hk (fun e => by have := (HOB.out k e.symm).2; omega))) (by rw [size_setCell]; exact hg7.size) (fun k h _ => h)))
      clear hown7 hg7 hbl7 hrk7 hx7 hbox7 HBs6 HRk6 HX6 HBel6 HBODY6 HO6 x0 x1 x2 x3 x4 x5 k0 k1 k2
      cases rbad
      case true =>
        obtain ⟨b0, b1, b2⟩ := bcell3 HB8.out.box
        obtain ⟨r0, r1⟩ := (⟨cell_two0 HRk8.out, cell_two1 HRk8.out⟩ : _ ∧ _)
        have lr8 := lt_of_block HRk8.out
        go_wp2_with fail
        go_ret
        rw [HAD.out]
        refine ⟨rfl, ⟨_, _, _, HB8.out⟩, HBel8.out⟩
      case false =>
        have hfit := HFIT.out rfl
        obtain ⟨b0, b1, b2⟩ := bcell3 HB8.out.box
        obtain ⟨r0, r1⟩ := (⟨cell_two0 HRk8.out, cell_two1 HRk8.out⟩ : _ ∧ _)
        have lr8 := lt_of_block HRk8.out
        have lb8 := lt_of_block HB8.out.box
        have lx8 := lt_of_block HX8.out
        have XC8 := bcell6 HX8.out
        obtain ⟨x0, x1, x2, x3, x4, x5⟩ := XC8
        have HQ : Hid (rk = ((rk.toNat : Nat) : Int)) := (by have := hfit.2.1; omega : rk = ((rk.toNat : Nat) : Int))
        have HL : Hid (∀ wx, BodyAt wx (.slice a bd.length c) bd → _) := fun wx hx => ruleLine_any ⟨nm, sx, rk, bd, ⟨hg, hs⟩⟩ rk.toNat (by have := hfit.2.1; omega) HQ.out hfit.1 hfit.2.2.1 hfit.2.2.2.1 hfit.2.2.2.2 a c wx hx
        clear hfit HFIT
        have HRS : Hid (RES = (⟨b.prems, b.rules ++ [⟨nm, sx, rk, bd, ⟨hg, hs⟩⟩], b.proms⟩, true && (line.toList == (ruleT ⟨nm, sx, rk, bd, ⟨hg, hs⟩⟩ rk.toNat).toList) && decide (b.proms.length = 0))) := by show _ = _; rw [HAD.out]; rfl
        clear HAD
        generalize ruleT ⟨nm, sx, rk, bd, ⟨hg, hs⟩⟩ rk.toNat = T at *
        go_wp2_with fail
        refine (HL.out _ HBODY8.out).mono ?_
        rintro e w9 ⟨rfl, hb9⟩
        have HB9 := hidIt (HB8.out.go hb9)
        have HBel9 := hidIt (HBel8.out.trans (Below.mono hb9 (by have := hs7; rw [size_setCell]; omega)))
        clear hb9 HB8 HBel8 HRk8 HX8 HL b0 b1 b2 r0 r1 lr8 lb8 lx8 x0 x1 x2 x3 x4 x5
        obtain ⟨b0, b1, b2⟩ := bcell3 HB9.out.box
        have lb9 := lt_of_block HB9.out.box
        cases hq : (line.toList == T.toList)
        case false =>
          go_wp2_with fail
          go_ret
          rw [HRS.out]
          refine ⟨ret_bool ?_, ⟨_, _, _, HB9.out⟩, HBel9.out⟩
          simp [hq]
        case true =>
          by_cases hz : b.proms.length = 0
          case pos =>
            have hzI : ((b.proms.length : Nat) : Int) = 0 := by omega
            go_wp2_with fail
            go_ret
            rw [HRS.out]
            refine ⟨ret_bool ?_, ⟨_, _, _, HB9.out⟩, HBel9.out⟩
            simp [hq, hz]
          case neg =>
            have hzI : ((b.proms.length : Nat) : Int) ≠ 0 := by omega
            go_wp2_with fail
            go_ret
            rw [HRS.out]
            refine ⟨ret_bool ?_, ⟨_, _, _, HB9.out⟩, HBel9.out⟩
            simp [hq, hz]

end Go.Proofs.YtmhloapjadhifaaGreatDoor

namespace Go.Proofs.YtmhloapjadhifaaGreatDoor
set_option linter.unusedVariables false
set_option linter.unusedSimpArgs false
open Go Go.RowKit

set_option maxRecDepth 100000 in
set_option maxHeartbeats 4000000 in
theorem addLine_prom (E B Rb : Nat) (b : Bs) (pv rv qv : Value) (line : ByteArray) (hline : line.size ≤ 4096) (w : World) (hb : BsIn w B Rb b pv rv qv) (hE : EnvUp E w) (hEB : E ≤ Rb) (hB : B ≤ w.heap.size) (hn1 : b.prems.length ≤ 5000) (hn2 : b.rules.length ≤ 5000) (hn3 : b.proms.length ≤ 5000)
    (hw1 : (isStrict (hdW (wordsOf line)) || isRule (hdW (wordsOf line))) = false) (hw2 : isPromote (hdW (wordsOf line)) = true) :
    Calls Tryz.prog 85 #[.pointer (some ⟨Rb, 0, none⟩), .string line] w fun e w' => e = .returned (.bool (addL b line).2) ∧ (∃ pv' rv' qv', BsIn w' B Rb (addL b line).1 pv' rv' qv') ∧ Below Rb w w' := by
  obtain ⟨ap, cp, rfl, hp1, hp2⟩ := shape_own hb.p
  obtain ⟨aq, cq, rfl, hq1, hq2⟩ := shape_own hb.q
  obtain ⟨ar, cr, rfl, hr1, hr2⟩ := (show ∃ (a : Option Addr) (c : Nat), rv = .slice a b.rules.length c ∧ b.rules.length ≤ c ∧ c ≤ maxLen by obtain ⟨bs, -, ho, -⟩ := hb.r; exact shape_own ho)
  have hRB := hb.lt
  obtain ⟨hwl, hwk⟩ := words_len line hline
  have HWK := hidIt hwk
  have HF : Hid (∀ wx : World, EnvOk wx → Calls Tryz.prog 134 #[.string line] wx fun e w' => ∃ A : Nat, e = .returned (.slice (some ⟨A, 0, none⟩) (wordsOf line).length (wordsOf line).length) ∧ A < w'.heap.size ∧ (∀ i (h : i < (wordsOf line).length), w'.cell? ⟨A, i, none⟩ = some (.string (wordsOf line)[i])) ∧ Below wx.heap.size wx w') := fun wx hx => fields5_any line hline wx hx
  have HADD : Hid (addL b line = addL2 b line (wordsOf line)) := by show _ = _; rfl
  generalize addL b line = RES at *
  generalize wordsOf line = ws at *
  have hADD : RES = addPr b line (rdProm ⟨ws.tail, false⟩) := by
    rw [HADD.out]
    unfold addL2
    rw [if_neg (by rw [hw1]; decide), if_pos hw2]
  have HAD := hidIt hADD
  have HB := hidIt hb
  have HEn := hidIt hE
  have hEw := hE.le
  clear hwk hADD HADD hb hE
  go_enter Tryz.func85, Tryz.ntmps85
  go_wp2_with fail
  refine (HF.out _ HEn.out.ok).mono ?_
  rintro e w1 ⟨A, rfl, hA, hAc, hb1⟩
  have hs1 := hb1.size
  have HRd : Hid (RdAt (w1.alloc (.cells #[.slice (some ⟨A, 0, none⟩) ws.length ws.length, .bool false] 150)) (w1.heap.size + 1) w1.heap.size ⟨ws, false⟩) :=
    ⟨by simp, by omega, some ⟨A, 0, none⟩, ws.length, heap_alloc_new w1 _, Nat.le_refl _, by show ws.length ≤ maxLen; unfold maxLen; omega, fun i hi => ⟨A, 0, rfl, by omega, by omega, by rw [Nat.zero_add]; exact ((bgrow w1 _).cell (p := ⟨A, i, none⟩) hA).trans (hAc i hi)⟩⟩
  have HBel := hidIt (hb1.trans (Below.mono (bgrow w1 (.cells #[.slice (some ⟨A, 0, none⟩) ws.length ws.length, .bool false] 150)) hs1))
  have hsz1 := size_alloc w1 (.cells #[.slice (some ⟨A, 0, none⟩) ws.length ws.length, .bool false] 150)
  clear hAc hb1 HF
  go_wp2_with fail
  generalize (w1.alloc (.cells #[.slice (some ⟨A, 0, none⟩) ws.length ws.length, .bool false] 150)) = w2 at *
  generalize hR0 : w1.heap.size = R at *
  clear hR0 hA hsz1
  refine (word_any (R + 1) R ⟨ws, false⟩ _ HRd.out).mono ?_
  rintro e w3 ⟨rfl, hr3, hg3⟩
  have hws2 := HBel.out.size
  have HRd3 : Hid (RdAt w3 (R + 1) R ⟨ws.tail, false⟩) := hr3
  have HBel3 := hidIt (below_grown5 HBel.out hg3 hs1 hws2)
  have HE3 := hidIt (HEn.out.kept (only_of_below HBel3.out none) (fun g e => by cases e))
  clear hr3 hg3 HRd HBel HEn
  have HWT : Hid (WsOk ws.tail) := HWK.out.tail
  have hwt : ws.tail.length ≤ 5000 := by rw [List.length_tail]; omega
  have HFIT : Hid ((rdProm ⟨ws.tail, false⟩).2.bad = false → _) := fun h => rdProm_fit (r := ⟨ws.tail, false⟩) h
  have HCALL : Hid (∀ wx, RdAt wx (R + 1) R ⟨ws.tail, false⟩ → EnvUp E wx → _) := fun wx h1 h2 => rprom_any E (R + 1) R ⟨ws.tail, false⟩ wx h1 HWT.out h2 (by have := HE3.out.le; omega)
  generalize rdProm ⟨ws.tail, false⟩ = X at *
  obtain ⟨⟨nm, rk, ⟨hg, hs⟩⟩, r4⟩ := X
  simp only at HCALL HFIT
  generalize hdW ws = hd at *
  have hwa := or_false_l hw1
  have hwb := or_false_r hw1
  clear hw1
  unfold isStrict at hwa
  unfold isRule at hwb
  unfold isPromote at hw2
  go_wp2_with fail
  refine (HCALL.out _ HRd3.out HE3.out).mono ?_
  rintro e w4 ⟨rfl, hr4, hg4⟩
  have hs3 : w.heap.size ≤ w3.heap.size := HBel3.out.size
  have hbel4 := below_grown5 HBel3.out hg4 hs1 hs3
  have hs4 : w.heap.size ≤ w4.heap.size := hbel4.size
  obtain ⟨rws, rbad⟩ := r4
  obtain ⟨-, -, la, lc, hrk, -⟩ := hr4
  have HX5 := hidIt (heap_alloc_new w4 (.cells #[.string nm, .int .i64 rk, .bool hg, .string hs] 68))
  have HRk5 := hidIt (blk_kept2 hrk (bgrow w4 (.cells #[.string nm, .int .i64 rk, .bool hg, .string hs] 68)))
  have HBs5 := hidIt (HB.out.go (hbel4.trans (Below.mono (bgrow w4 (.cells #[.string nm, .int .i64 rk, .bool hg, .string hs] 68)) hs4)))
  have HBel5 := hidIt (hbel4.trans (Below.mono (bgrow w4 (.cells #[.string nm, .int .i64 rk, .bool hg, .string hs] 68)) hs4))

  clear hg4 hrk hbel4 HRd3 HE3 HBel3 HCALL
  go_wp2_with fail
  generalize (w4.alloc (.cells #[.string nm, .int .i64 rk, .bool hg, .string hs] 68)) = w5 at *
  generalize w4.heap.size = P at *
  have hRlt : R < w5.heap.size := lt_of_block HRk5.out
  have hPlt : P < w5.heap.size := lt_of_block HX5.out
  have hRbw : Rb < w.heap.size := by omega
  have HBs6 := hidIt ((HBs5.out.go (Below.refl w5.heap.size w5).drew).go (bgrow w5.drew (.cells #[.string nm, .int .i64 rk, .bool hg, .string hs] 68)))
  have HRk6 := hidIt (blk_kept2 (blk_kept2 HRk5.out (Below.refl w5.heap.size w5).drew) (bgrow w5.drew (.cells #[.string nm, .int .i64 rk, .bool hg, .string hs] 68)))
  have HX6 := hidIt (blk_kept2 (blk_kept2 HX5.out (Below.refl w5.heap.size w5).drew) (bgrow w5.drew (.cells #[.string nm, .int .i64 rk, .bool hg, .string hs] 68)))
  have hs5 : w.heap.size ≤ w5.heap.size := HBel5.out.size
  have hs6 : w.heap.size ≤ (w5.drew.alloc (.cells #[.string nm, .int .i64 rk, .bool hg, .string hs] 68)).heap.size := by simp; omega
  have HBel6 := hidIt ((HBel5.out.trans (Below.mono (Below.refl w5.heap.size w5).drew hs5)).trans (Below.mono (bgrow w5.drew (.cells #[.string nm, .int .i64 rk, .bool hg, .string hs] 68)) hs5))

  have HO6 : Hid (World.ownsRow _ _ _ _ _ _ _) := hidIt HBs6.out.q
  have HOB : Hid (∀ g, (Value.slice aq b.proms.length cq).ownBlock = some g → B ≤ g ∧ g < w.heap.size) := owns_blk HB.out.q
  obtain ⟨k0, k1, k2⟩ := bcell3 HBs5.out.box
  have XC := bcell4 HX5.out
  obtain ⟨x0, x1, x2, x3⟩ := XC
  have hlb := lt_of_block HBs5.out.box
  clear HBs5 HBel5 HX5 HRk5
  go_region_law (first
    | (refine step_append_sb (by rfl) (.tmp 100) (.tmp 102) elemPr (by rfl) B (.slice aq b.proms.length cq) b.proms.length _ (by rfl) HO6.out _ 1 (by rfl) #[.string nm, .int .i64 rk, .bool hg, .string hs] _ (heap_alloc_new _ _) rfl (one_of (by rfl)) (by omega) (by simp; omega) ?_
       intro g7 c7 w7 hown7 hg7 hbl7
       have hbox7 := (hg7.block Rb (lt_of_block HBs6.out.box) (fun e => by have := (HOB.out Rb e.symm).1; omega)).trans HBs6.out.box
       have k7 := (bcell3 hbox7).2.2
       have f7 := free_any hbox7 2
       have l7 := lt_of_block hbox7))
  all_goals
    have hrk7 := (hg7.block R (lt_of_block HRk6.out) (fun e => by have := (HOB.out R e.symm).2; omega)).trans HRk6.out
    have hx7 := (hg7.block P (lt_of_block HX6.out) (fun e => by have := (HOB.out P e.symm).2; omega)).trans HX6.out
    have HB8 := hidIt (HBs6.out.addQ (p := ⟨nm, rk, ⟨hg, hs⟩⟩) hown7 hg7 hbl7)
    have HRk8 := hidIt (keepS (p := ⟨Rb, 2, none⟩) (u := .slice (some ⟨g7, 0, none⟩) (b.proms.length + 1) c7) hrk7 (by show R ≠ Rb; omega))
    have HX8 := hidIt (keepS (p := ⟨Rb, 2, none⟩) (u := .slice (some ⟨g7, 0, none⟩) (b.proms.length + 1) c7) hx7 (by show P ≠ Rb; omega))
    have HBel8 : Hid (Below Rb w (w7.setCell ⟨Rb, 2, none⟩ (.slice (some ⟨g7, 0, none⟩) (b.proms.length + 1) c7))) := hidIt (below_set5 (below_app5 (HBel6.out.mono (by omega)) hg7 (fun g e => by have := (HOB.out g e).1; omega) (by omega)) (Nat.le_refl _))
    have hs7 : w.heap.size ≤ w7.heap.size := Nat.le_trans hs6 hg7.size
    
    clear hown7 hg7 hbl7 hrk7 hx7 hbox7 HBs6 HRk6 HX6 HBel6 HO6 x0 x1 x2 x3 k0 k1 k2
    cases rbad
    case true =>
      obtain ⟨b0, b1, b2⟩ := bcell3 HB8.out.box
      obtain ⟨r0, r1⟩ := (⟨cell_two0 HRk8.out, cell_two1 HRk8.out⟩ : _ ∧ _)
      have lr8 := lt_of_block HRk8.out
      go_wp2_with fail
      go_ret
      rw [HAD.out]
      refine ⟨rfl, ⟨_, _, _, HB8.out⟩, HBel8.out⟩
    case false =>
      have hfit := HFIT.out rfl
      obtain ⟨b0, b1, b2⟩ := bcell3 HB8.out.box
      obtain ⟨r0, r1⟩ := (⟨cell_two0 HRk8.out, cell_two1 HRk8.out⟩ : _ ∧ _)
      have lr8 := lt_of_block HRk8.out
      have lb8 := lt_of_block HB8.out.box
      have lx8 := lt_of_block HX8.out
      have XC8 := bcell4 HX8.out
      obtain ⟨x0, x1, x2, x3⟩ := XC8
      have HQ : Hid (rk = ((rk.toNat : Nat) : Int)) := (by have := hfit.1; omega : rk = ((rk.toNat : Nat) : Int))
      have HL : Hid (∀ wx, _) := fun wx => promLine_any ⟨nm, rk, ⟨hg, hs⟩⟩ rk.toNat (by have := hfit.1; omega) HQ.out hfit.2.1 hfit.2.2 wx
      clear hfit HFIT
      have HRS : Hid (RES = (⟨b.prems, b.rules, b.proms ++ [⟨nm, rk, ⟨hg, hs⟩⟩]⟩, true && (line.toList == (promT ⟨nm, rk, ⟨hg, hs⟩⟩ rk.toNat).toList))) := by show _ = _; rw [HAD.out]; rfl
      clear HAD
      generalize promT ⟨nm, rk, ⟨hg, hs⟩⟩ rk.toNat = T at *
      go_wp2_with fail
      refine (HL.out _).mono ?_
      rintro e w9 ⟨rfl, hb9⟩
      have HB9 := hidIt (HB8.out.go hb9)
      have HBel9 := hidIt (HBel8.out.trans (Below.mono hb9 (by have := hs7; rw [size_setCell]; omega)))
      clear hb9 HB8 HBel8 HRk8 HX8 HL b0 b1 b2 r0 r1 lr8 lb8 lx8 x0 x1 x2 x3
      obtain ⟨b0, b1, b2⟩ := bcell3 HB9.out.box
      have lb9 := lt_of_block HB9.out.box
      cases hq : (line.toList == T.toList)
      case false =>
        go_wp2_with fail
        go_ret
        rw [HRS.out]
        refine ⟨ret_bool ?_, ⟨_, _, _, HB9.out⟩, HBel9.out⟩
        simp [hq]
      case true =>
        go_wp2_with fail
        go_ret
        rw [HRS.out]
        refine ⟨ret_bool ?_, ⟨_, _, _, HB9.out⟩, HBel9.out⟩
        simp [hq]

end Go.Proofs.YtmhloapjadhifaaGreatDoor

namespace Go.Proofs.YtmhloapjadhifaaGreatDoor
set_option linter.unusedVariables false
set_option linter.unusedSimpArgs false
open Go Go.RowKit

set_option maxRecDepth 100000 in
set_option maxHeartbeats 4000000 in
theorem addLine_prem (E B Rb : Nat) (b : Bs) (pv rv qv : Value) (line : ByteArray) (hline : line.size ≤ 4096) (w : World) (hb : BsIn w B Rb b pv rv qv) (hE : EnvUp E w) (hEB : E ≤ Rb) (hB : B ≤ w.heap.size) (hn1 : b.prems.length ≤ 5000) (hn2 : b.rules.length ≤ 5000) (hn3 : b.proms.length ≤ 5000)
    (hw1 : (isStrict (hdW (wordsOf line)) || isRule (hdW (wordsOf line))) = false) (hw2 : isPromote (hdW (wordsOf line)) = false) :
    Calls Tryz.prog 85 #[.pointer (some ⟨Rb, 0, none⟩), .string line] w fun e w' => e = .returned (.bool (addL b line).2) ∧ (∃ pv' rv' qv', BsIn w' B Rb (addL b line).1 pv' rv' qv') ∧ Below Rb w w' := by
  obtain ⟨ap, cp, rfl, hp1, hp2⟩ := shape_own hb.p
  obtain ⟨aq, cq, rfl, hq1, hq2⟩ := shape_own hb.q
  obtain ⟨ar, cr, rfl, hr1, hr2⟩ := (show ∃ (a : Option Addr) (c : Nat), rv = .slice a b.rules.length c ∧ b.rules.length ≤ c ∧ c ≤ maxLen by obtain ⟨bs, -, ho, -⟩ := hb.r; exact shape_own ho)
  have hRB := hb.lt
  obtain ⟨hwl, hwk⟩ := words_len line hline
  have HWK := hidIt hwk
  have HF : Hid (∀ wx : World, EnvOk wx → Calls Tryz.prog 134 #[.string line] wx fun e w' => ∃ A : Nat, e = .returned (.slice (some ⟨A, 0, none⟩) (wordsOf line).length (wordsOf line).length) ∧ A < w'.heap.size ∧ (∀ i (h : i < (wordsOf line).length), w'.cell? ⟨A, i, none⟩ = some (.string (wordsOf line)[i])) ∧ Below wx.heap.size wx w') := fun wx hx => fields5_any line hline wx hx
  have HADD : Hid (addL b line = addL2 b line (wordsOf line)) := by show _ = _; rfl
  generalize addL b line = RES at *
  generalize wordsOf line = ws at *
  have hADD : RES = addPm b line (rdPrem (kindT (hdW ws)) ⟨ws.tail, false⟩) := by
    rw [HADD.out]
    unfold addL2
    rw [if_neg (by rw [hw1]; decide), if_neg (by rw [hw2]; decide)]
  have HAD := hidIt hADD
  have HB := hidIt hb
  have HEn := hidIt hE
  have HE0 := hidIt hE
  have hEw := hE.le
  clear hwk hADD HADD hb hE
  go_enter Tryz.func85, Tryz.ntmps85
  go_wp2_with fail
  refine (HF.out _ HEn.out.ok).mono ?_
  rintro e w1 ⟨A, rfl, hA, hAc, hb1⟩
  have hs1 := hb1.size
  have HRd : Hid (RdAt (w1.alloc (.cells #[.slice (some ⟨A, 0, none⟩) ws.length ws.length, .bool false] 150)) (w1.heap.size + 1) w1.heap.size ⟨ws, false⟩) :=
    ⟨by simp, by omega, some ⟨A, 0, none⟩, ws.length, heap_alloc_new w1 _, Nat.le_refl _, by show ws.length ≤ maxLen; unfold maxLen; omega, fun i hi => ⟨A, 0, rfl, by omega, by omega, by rw [Nat.zero_add]; exact ((bgrow w1 _).cell (p := ⟨A, i, none⟩) hA).trans (hAc i hi)⟩⟩
  have HBel := hidIt (hb1.trans (Below.mono (bgrow w1 (.cells #[.slice (some ⟨A, 0, none⟩) ws.length ws.length, .bool false] 150)) hs1))
  have hsz1 := size_alloc w1 (.cells #[.slice (some ⟨A, 0, none⟩) ws.length ws.length, .bool false] 150)
  clear hAc hb1 HF
  go_wp2_with fail
  generalize (w1.alloc (.cells #[.slice (some ⟨A, 0, none⟩) ws.length ws.length, .bool false] 150)) = w2 at *
  generalize hR0 : w1.heap.size = R at *
  clear hR0 hA hsz1
  refine (word_any (R + 1) R ⟨ws, false⟩ _ HRd.out).mono ?_
  rintro e w3 ⟨rfl, hr3, hg3⟩
  have hws2 := HBel.out.size
  have HRd3 : Hid (RdAt w3 (R + 1) R ⟨ws.tail, false⟩) := hr3
  have HBel3 := hidIt (below_grown5 HBel.out hg3 hs1 hws2)
  have HE3 := hidIt (HEn.out.kept (only_of_below HBel3.out none) (fun g e => by cases e))
  clear hr3 hg3 HRd HBel HEn
  have HWT : Hid (WsOk ws.tail) := HWK.out.tail
  have hwt : ws.tail.length ≤ 5000 := by rw [List.length_tail]; omega
  have HFIT : Hid ((rdPrem (kindT (hdW ws)) ⟨ws.tail, false⟩).2.bad = false → _) := fun h => rdPrem_fit (s := hdW ws) (r := ⟨ws.tail, false⟩) h
  have HCALL : Hid (∀ wx, RdAt wx (R + 1) R ⟨ws.tail, false⟩ → EnvUp E wx → _) := fun wx h1 h2 => rprem_any E (R + 1) R (kindT (hdW ws)) ⟨ws.tail, false⟩ wx h1 HWT.out h2 (by have := HE3.out.le; omega)
  have HKO : Hid (∀ wx, WordsAt wx → Calls Tryz.prog 139 #[.string (hdW ws)] wx fun e w' => e = .returned (.int .i64 (kindT (hdW ws))) ∧ wx = w') := fun wx hx => kindOf_any (hdW ws) wx hx
  have HEK : Hid (EnvUp E w3) := HE3
  generalize rdPrem (kindT (hdW ws)) ⟨ws.tail, false⟩ = X at *
  generalize kindT (hdW ws) = kk at *
  obtain ⟨⟨⟨hg, hs⟩, kd, rk, sr⟩, r4⟩ := X
  simp only at HCALL HFIT
  generalize hdW ws = hd at *
  have hwa := or_false_l hw1
  have hwb := or_false_r hw1
  clear hw1
  unfold isStrict at hwa
  unfold isRule at hwb
  unfold isPromote at hw2
  go_wp2_with fail
  refine (HKO.out _ HEK.out.ok.words).mono ?_
  rintro e w3' ⟨rfl, rfl⟩
  clear HKO HEK
  go_wp2_with fail
  refine (HCALL.out _ HRd3.out HE3.out).mono ?_
  rintro e w4 ⟨rfl, hr4, hg4⟩
  have hs3 : w.heap.size ≤ w3.heap.size := HBel3.out.size
  have hbel4 := below_grown5 HBel3.out hg4 hs1 hs3
  have hs4 : w.heap.size ≤ w4.heap.size := hbel4.size
  obtain ⟨rws, rbad⟩ := r4
  obtain ⟨-, -, la, lc, hrk, -⟩ := hr4
  have HX5 := hidIt (heap_alloc_new w4 (.cells #[.bool hg, .string hs, .int .i64 kd, .int .i64 rk, .string sr] 64))
  have HRk5 := hidIt (blk_kept2 hrk (bgrow w4 (.cells #[.bool hg, .string hs, .int .i64 kd, .int .i64 rk, .string sr] 64)))
  have HBs5 := hidIt (HB.out.go (hbel4.trans (Below.mono (bgrow w4 (.cells #[.bool hg, .string hs, .int .i64 kd, .int .i64 rk, .string sr] 64)) hs4)))
  have HBel5 := hidIt (hbel4.trans (Below.mono (bgrow w4 (.cells #[.bool hg, .string hs, .int .i64 kd, .int .i64 rk, .string sr] 64)) hs4))

  clear hg4 hrk hbel4 HRd3 HE3 HBel3 HCALL
  go_wp2_with fail
  generalize (w4.alloc (.cells #[.bool hg, .string hs, .int .i64 kd, .int .i64 rk, .string sr] 64)) = w5 at *
  generalize w4.heap.size = P at *
  have hRlt : R < w5.heap.size := lt_of_block HRk5.out
  have hPlt : P < w5.heap.size := lt_of_block HX5.out
  have hRbw : Rb < w.heap.size := by omega
  have HBs6 := hidIt ((HBs5.out.go (Below.refl w5.heap.size w5).drew).go (bgrow w5.drew (.cells #[.bool hg, .string hs, .int .i64 kd, .int .i64 rk, .string sr] 64)))
  have HRk6 := hidIt (blk_kept2 (blk_kept2 HRk5.out (Below.refl w5.heap.size w5).drew) (bgrow w5.drew (.cells #[.bool hg, .string hs, .int .i64 kd, .int .i64 rk, .string sr] 64)))
  have HX6 := hidIt (blk_kept2 (blk_kept2 HX5.out (Below.refl w5.heap.size w5).drew) (bgrow w5.drew (.cells #[.bool hg, .string hs, .int .i64 kd, .int .i64 rk, .string sr] 64)))
  have hs5 : w.heap.size ≤ w5.heap.size := HBel5.out.size
  have hs6 : w.heap.size ≤ (w5.drew.alloc (.cells #[.bool hg, .string hs, .int .i64 kd, .int .i64 rk, .string sr] 64)).heap.size := by simp; omega
  have HBel6 := hidIt ((HBel5.out.trans (Below.mono (Below.refl w5.heap.size w5).drew hs5)).trans (Below.mono (bgrow w5.drew (.cells #[.bool hg, .string hs, .int .i64 kd, .int .i64 rk, .string sr] 64)) hs5))

  have HO6 : Hid (World.ownsRow _ _ _ _ _ _ _) := hidIt HBs6.out.p
  have HOB : Hid (∀ g, (Value.slice ap b.prems.length cp).ownBlock = some g → B ≤ g ∧ g < w.heap.size) := owns_blk HB.out.p
  obtain ⟨k0, k1, k2⟩ := bcell3 HBs5.out.box
  have XC := bcell5 HX5.out
  obtain ⟨x0, x1, x2, x3, x4⟩ := XC
  have hlb := lt_of_block HBs5.out.box
  clear HBs5 HBel5 HX5 HRk5
  go_region_law (first
    | (refine step_append_sb (by rfl) (.tmp 25) (.tmp 27) elemPm (by rfl) B (.slice ap b.prems.length cp) b.prems.length _ (by rfl) HO6.out _ 1 (by rfl) #[.bool hg, .string hs, .int .i64 kd, .int .i64 rk, .string sr] _ (heap_alloc_new _ _) rfl (one_of (by rfl)) (by omega) (by simp; omega) ?_
       intro g7 c7 w7 hown7 hg7 hbl7
       have hbox7 := (hg7.block Rb (lt_of_block HBs6.out.box) (fun e => by have := (HOB.out Rb e.symm).1; omega)).trans HBs6.out.box
       have k7 := (bcell3 hbox7).1
       have f7 := free_any hbox7 0
       have l7 := lt_of_block hbox7))
  all_goals
    have hrk7 := (hg7.block R (lt_of_block HRk6.out) (fun e => by have := (HOB.out R e.symm).2; omega)).trans HRk6.out
    have hx7 := (hg7.block P (lt_of_block HX6.out) (fun e => by have := (HOB.out P e.symm).2; omega)).trans HX6.out
    have HB8 := hidIt (HBs6.out.addP (p := ⟨⟨hg, hs⟩, kd, rk, sr⟩) hown7 hg7 hbl7)
    have HRk8 := hidIt (keepS (p := ⟨Rb, 0, none⟩) (u := .slice (some ⟨g7, 0, none⟩) (b.prems.length + 1) c7) hrk7 (by show R ≠ Rb; omega))
    have HX8 := hidIt (keepS (p := ⟨Rb, 0, none⟩) (u := .slice (some ⟨g7, 0, none⟩) (b.prems.length + 1) c7) hx7 (by show P ≠ Rb; omega))
    have HBel8 : Hid (Below Rb w (w7.setCell ⟨Rb, 0, none⟩ (.slice (some ⟨g7, 0, none⟩) (b.prems.length + 1) c7))) := hidIt (below_set5 (below_app5 (HBel6.out.mono (by omega)) hg7 (fun g e => by have := (HOB.out g e).1; omega) (by omega)) (Nat.le_refl _))
    have hs7 : w.heap.size ≤ w7.heap.size := Nat.le_trans hs6 hg7.size
    
    clear hown7 hg7 hbl7 hrk7 hx7 hbox7 HBs6 HRk6 HX6 HBel6 HO6 x0 x1 x2 x3 x4 k0 k1 k2
    have hs8 : w.heap.size ≤ (w7.setCell ⟨Rb, 0, none⟩ (.slice (some ⟨g7, 0, none⟩) (b.prems.length + 1) c7)).heap.size := by rw [size_setCell]; omega
    generalize (w7.setCell ⟨Rb, 0, none⟩ (.slice (some ⟨g7, 0, none⟩) (b.prems.length + 1) c7)) = w8 at *
    obtain ⟨b0, b1, b2⟩ := bcell3 HB8.out.box
    obtain ⟨r0, r1⟩ := (⟨cell_two0 HRk8.out, cell_two1 HRk8.out⟩ : _ ∧ _)
    have lr8 := lt_of_block HRk8.out
    have lb8 := lt_of_block HB8.out.box
    have lx8 := lt_of_block HX8.out
    obtain ⟨x0, x1, x2, x3, x4⟩ := bcell5 HX8.out
    have KR : ∀ wx, Ext w8 wx → wx.cell? ⟨R, 1, none⟩ = some (.bool rbad) := fun wx hC => ext_cell r1 lr8 hC
    have KB1 : ∀ wx, Ext w8 wx → wx.cell? ⟨Rb, 1, none⟩ = some (.slice ar b.rules.length cr) := fun wx hC => ext_cell b1 lb8 hC
    have KB2 : ∀ wx, Ext w8 wx → wx.cell? ⟨Rb, 2, none⟩ = some (.slice aq b.proms.length cq) := fun wx hC => ext_cell b2 lb8 hC
    have X0 : ∀ wx, Ext w8 wx → wx.cell? ⟨P, 0, none⟩ = some (.bool hg) := fun wx hC => ext_cell x0 lx8 hC
    have X1 : ∀ wx, Ext w8 wx → wx.cell? ⟨P, 1, none⟩ = some (.string hs) := fun wx hC => ext_cell x1 lx8 hC
    have X2 : ∀ wx, Ext w8 wx → wx.cell? ⟨P, 2, none⟩ = some (.int .i64 kd) := fun wx hC => ext_cell x2 lx8 hC
    have X3 : ∀ wx, Ext w8 wx → wx.cell? ⟨P, 3, none⟩ = some (.int .i64 rk) := fun wx hC => ext_cell x3 lx8 hC
    have X4 : ∀ wx, Ext w8 wx → wx.cell? ⟨P, 4, none⟩ = some (.string sr) := fun wx hC => ext_cell x4 lx8 hC
    clear b0 b1 b2 r0 r1 x0 x1 x2 x3 x4
    haveI : Nonempty (In (Ext w8)) := Ext.nonempty w8
    cases rbad
    case true =>
      have HRS : Hid (RES = (⟨b.prems ++ [⟨⟨hg, hs⟩, kd, rk, sr⟩], b.rules, b.proms⟩, false)) := by show _ = _; rw [HAD.out]; rfl
      clear HAD
      go_wp2_with fail
      refine wp_region_rel (Ext w8) Grows (relTab []) (by kernel_rfl) (by kernel_rfl) (by kernel_rfl) (stable_nil _) (Ext.start w8) ?_
      repeat (first
        | (refine walkR_skip (by rfl) ?_
           simp only [Act.put, List.setIfInBounds_toArray, List.set_cons_zero, List.set_cons_succ])
        | (refine' walkR_plain (by kernel_rfl) rfl rfl (fun wx hC hL => ?_) ?_
           rotate_left
           · (have hlw := Below.size hC
              have hlw1 := Nat.lt_of_lt_of_le lr8 hlw
              have hlw2 := Nat.lt_of_lt_of_le lb8 hlw
              have hlw3 := Nat.lt_of_lt_of_le lx8 hlw
              simp only [KR wx hC, KB1 wx hC, KB2 wx hC, X0 wx hC, X1 wx hC, X2 wx hC, X3 wx hC, X4 wx hC, hlw1, hlw2, hlw3, go_sem]; first | done | (go_simp; exact ⟨rfl, rfl⟩))
           simp only [Act.put, List.setIfInBounds_toArray, List.set_cons_zero, List.set_cons_succ]))
      refine fun w9 hC9 _ => ?_
      have HB9 := hidIt (HB8.out.go hC9)
      have HBel9 := hidIt (HBel8.out.trans (Below.mono hC9 (by omega)))
      clear hC9 KR KB1 KB2 X0 X1 X2 X3 X4
      go_wp2_with fail
      go_ret
      rw [HRS.out]
      refine ⟨ret_bool ?_, ⟨_, _, _, HB9.out⟩, HBel9.out⟩
      rfl
    case false =>
      have hfit := HFIT.out rfl
      have hf2 := hfit.2.1
      have HQ : Hid (rk = ((rk.toNat : Nat) : Int)) := (by simp only at hf2; omega : rk = ((rk.toNat : Nat) : Int))
      have HL : Hid (∀ wx, WordsAt wx → _) := fun wx hx => premLine_any ⟨⟨hg, hs⟩, kd, rk, sr⟩ rk.toNat (by simp only at hf2; omega) HQ.out hfit.2.2.1 hfit.2.2.2 hfit.1 wx hx
      have HRS : Hid (RES = (⟨b.prems ++ [⟨⟨hg, hs⟩, kd, rk, sr⟩], b.rules, b.proms⟩, true && (line.toList == (premT ⟨⟨hg, hs⟩, kd, rk, sr⟩ rk.toNat).toList) && decide (b.rules.length + b.proms.length = 0))) := by show _ = _; rw [HAD.out]; rfl
      clear HAD hfit HFIT hf2
      generalize premT ⟨⟨hg, hs⟩, kd, rk, sr⟩ rk.toNat = T at *
      have HW8 : Hid (WordsAt w8) := hidIt (HE0.out.go (HBel8.out.mono hEB)).ok.words
      have H1 : Hid (∀ wx, Ext w8 wx → Calls Tryz.prog 126 #[.agg #[.bool hg, .string hs, .int .i64 kd, .int .i64 rk, .string sr]] wx fun e w'' => ∃ u, e = .returned u ∧ Ext w8 w'' ∧ Grows wx w'' ∧ isV (.string T) u w'') := fun wx hC => rel_call hC ((HL.out wx (HW8.out.go hC)).mono fun e w'' ⟨he, hb⟩ => ⟨_, he, rfl, hb⟩)
      clear HL
      cases hq : (line.toList == T.toList)
      case false =>
        go_wp2_with fail
        refine wp_region_rel (Ext w8) Grows (relTab [(39, isV (.string T))]) (by kernel_rfl) (by kernel_rfl) (by kernel_rfl) (stable_cons (isV_up _) (stable_nil _)) (Ext.start w8) ?_
        repeat (first
          | (refine walkR_skip (by rfl) ?_
             simp only [Act.put, List.setIfInBounds_toArray, List.set_cons_zero, List.set_cons_succ])
          | (refine' walkR_plain (by kernel_rfl) rfl rfl (fun wx hC hL => ?_) ?_
             rotate_left
             · (have hlw := Below.size hC
                have hlw1 := Nat.lt_of_lt_of_le lr8 hlw
                have hlw2 := Nat.lt_of_lt_of_le lb8 hlw
                have hlw3 := Nat.lt_of_lt_of_le lx8 hlw
                simp only [KR wx hC, KB1 wx hC, KB2 wx hC, X0 wx hC, X1 wx hC, X2 wx hC, X3 wx hC, X4 wx hC, hlw1, hlw2, hlw3, go_sem]; first | done | (go_simp; exact ⟨rfl, rfl⟩))
             simp only [Act.put, List.setIfInBounds_toArray, List.set_cons_zero, List.set_cons_succ]))
        refine walkR_rel (by kernel_rfl) rfl rfl (of_decide_eq_true (by kernel_rfl)) (fun wx hC hL => ?_) (fun v hv => ?_)
        · go_simp
          exact H1.out wx hC
        obtain ⟨_, _, rfl⟩ := hv
        simp only [Act.put, List.setIfInBounds_toArray, List.set_cons_zero, List.set_cons_succ]
        repeat (first
          | (refine walkR_skip (by rfl) ?_
             simp only [Act.put, List.setIfInBounds_toArray, List.set_cons_zero, List.set_cons_succ])
          | (refine' walkR_plain (by kernel_rfl) rfl rfl (fun wx hC hL => ?_) ?_
             rotate_left
             · (have hlw := Below.size hC
                have hlw1 := Nat.lt_of_lt_of_le lr8 hlw
                have hlw2 := Nat.lt_of_lt_of_le lb8 hlw
                have hlw3 := Nat.lt_of_lt_of_le lx8 hlw
                simp only [KR wx hC, KB1 wx hC, KB2 wx hC, X0 wx hC, X1 wx hC, X2 wx hC, X3 wx hC, X4 wx hC, hlw1, hlw2, hlw3, hq, go_sem]; first | done | (go_simp; exact ⟨rfl, rfl⟩))
             simp only [Act.put, List.setIfInBounds_toArray, List.set_cons_zero, List.set_cons_succ]))
        refine fun w9 hC9 _ => ?_
        have HB9 := hidIt (HB8.out.go hC9)
        have HBel9 := hidIt (HBel8.out.trans (Below.mono hC9 (by omega)))
        clear hC9 KR KB1 KB2 X0 X1 X2 X3 X4
        go_wp2_with fail
        go_ret
        rw [HRS.out]
        refine ⟨ret_bool ?_, ⟨_, _, _, HB9.out⟩, HBel9.out⟩
        simp [hq]
      case true =>
        by_cases hz : b.rules.length + b.proms.length = 0
        case pos =>
          have hzI : IntKind.i64.wrap (((b.rules.length : Nat) : Int) + ((b.proms.length : Nat) : Int)) = 0 := by rw [IntKind.wrap_i64]; omega
          go_wp2_with fail
          refine wp_region_rel (Ext w8) Grows (relTab [(39, isV (.string T))]) (by kernel_rfl) (by kernel_rfl) (by kernel_rfl) (stable_cons (isV_up _) (stable_nil _)) (Ext.start w8) ?_
          repeat (first
            | (refine walkR_skip (by rfl) ?_
               simp only [Act.put, List.setIfInBounds_toArray, List.set_cons_zero, List.set_cons_succ])
            | (refine' walkR_plain (by kernel_rfl) rfl rfl (fun wx hC hL => ?_) ?_
               rotate_left
               · (have hlw := Below.size hC
                  have hlw1 := Nat.lt_of_lt_of_le lr8 hlw
                  have hlw2 := Nat.lt_of_lt_of_le lb8 hlw
                  have hlw3 := Nat.lt_of_lt_of_le lx8 hlw
                  simp only [KR wx hC, KB1 wx hC, KB2 wx hC, X0 wx hC, X1 wx hC, X2 wx hC, X3 wx hC, X4 wx hC, hlw1, hlw2, hlw3, go_sem]; first | done | (go_simp; exact ⟨rfl, rfl⟩))
               simp only [Act.put, List.setIfInBounds_toArray, List.set_cons_zero, List.set_cons_succ]))
          refine walkR_rel (by kernel_rfl) rfl rfl (of_decide_eq_true (by kernel_rfl)) (fun wx hC hL => ?_) (fun v hv => ?_)
          · go_simp
            exact H1.out wx hC
          obtain ⟨_, _, rfl⟩ := hv
          simp only [Act.put, List.setIfInBounds_toArray, List.set_cons_zero, List.set_cons_succ]
          repeat (first
            | (refine walkR_skip (by rfl) ?_
               simp only [Act.put, List.setIfInBounds_toArray, List.set_cons_zero, List.set_cons_succ])
            | (refine' walkR_plain (by kernel_rfl) rfl rfl (fun wx hC hL => ?_) ?_
               rotate_left
               · (have hlw := Below.size hC
                  have hlw1 := Nat.lt_of_lt_of_le lr8 hlw
                  have hlw2 := Nat.lt_of_lt_of_le lb8 hlw
                  have hlw3 := Nat.lt_of_lt_of_le lx8 hlw
                  simp only [KR wx hC, KB1 wx hC, KB2 wx hC, X0 wx hC, X1 wx hC, X2 wx hC, X3 wx hC, X4 wx hC, hlw1, hlw2, hlw3, hq, hzI, go_sem]; first | done | (go_simp; exact ⟨rfl, rfl⟩))
               simp only [Act.put, List.setIfInBounds_toArray, List.set_cons_zero, List.set_cons_succ]))
          refine fun w9 hC9 _ => ?_
          have HB9 := hidIt (HB8.out.go hC9)
          have HBel9 := hidIt (HBel8.out.trans (Below.mono hC9 (by omega)))
          clear hC9 KR KB1 KB2 X0 X1 X2 X3 X4
          go_wp2_with fail
          go_ret
          rw [HRS.out]
          refine ⟨ret_bool ?_, ⟨_, _, _, HB9.out⟩, HBel9.out⟩
          have e1 : b.rules.length = 0 := by omega
          have e2 : b.proms.length = 0 := by omega
          first | simp [hq, hz] | (rw [e1, e2]; rfl) | (simp [hq, hz, e1, e2]; done) | (rw [e1, e2]; simp; rw [IntKind.wrap_i64]; omega)
        case neg =>
          have hzI : (IntKind.i64.wrap (((b.rules.length : Nat) : Int) + ((b.proms.length : Nat) : Int)) == 0) = false := by rw [beq_eq_false_iff_ne, IntKind.wrap_i64]; omega
          go_wp2_with fail
          refine wp_region_rel (Ext w8) Grows (relTab [(39, isV (.string T))]) (by kernel_rfl) (by kernel_rfl) (by kernel_rfl) (stable_cons (isV_up _) (stable_nil _)) (Ext.start w8) ?_
          repeat (first
            | (refine walkR_skip (by rfl) ?_
               simp only [Act.put, List.setIfInBounds_toArray, List.set_cons_zero, List.set_cons_succ])
            | (refine' walkR_plain (by kernel_rfl) rfl rfl (fun wx hC hL => ?_) ?_
               rotate_left
               · (have hlw := Below.size hC
                  have hlw1 := Nat.lt_of_lt_of_le lr8 hlw
                  have hlw2 := Nat.lt_of_lt_of_le lb8 hlw
                  have hlw3 := Nat.lt_of_lt_of_le lx8 hlw
                  simp only [KR wx hC, KB1 wx hC, KB2 wx hC, X0 wx hC, X1 wx hC, X2 wx hC, X3 wx hC, X4 wx hC, hlw1, hlw2, hlw3, go_sem]; first | done | (go_simp; exact ⟨rfl, rfl⟩))
               simp only [Act.put, List.setIfInBounds_toArray, List.set_cons_zero, List.set_cons_succ]))
          refine walkR_rel (by kernel_rfl) rfl rfl (of_decide_eq_true (by kernel_rfl)) (fun wx hC hL => ?_) (fun v hv => ?_)
          · go_simp
            exact H1.out wx hC
          obtain ⟨_, _, rfl⟩ := hv
          simp only [Act.put, List.setIfInBounds_toArray, List.set_cons_zero, List.set_cons_succ]
          repeat (first
            | (refine walkR_skip (by rfl) ?_
               simp only [Act.put, List.setIfInBounds_toArray, List.set_cons_zero, List.set_cons_succ])
            | (refine' walkR_plain (by kernel_rfl) rfl rfl (fun wx hC hL => ?_) ?_
               rotate_left
               · (have hlw := Below.size hC
                  have hlw1 := Nat.lt_of_lt_of_le lr8 hlw
                  have hlw2 := Nat.lt_of_lt_of_le lb8 hlw
                  have hlw3 := Nat.lt_of_lt_of_le lx8 hlw
                  simp only [KR wx hC, KB1 wx hC, KB2 wx hC, X0 wx hC, X1 wx hC, X2 wx hC, X3 wx hC, X4 wx hC, hlw1, hlw2, hlw3, hq, hzI, go_sem]; first | done | (go_simp; exact ⟨rfl, rfl⟩))
               simp only [Act.put, List.setIfInBounds_toArray, List.set_cons_zero, List.set_cons_succ]))
          refine fun w9 hC9 _ => ?_
          have HB9 := hidIt (HB8.out.go hC9)
          have HBel9 := hidIt (HBel8.out.trans (Below.mono hC9 (by omega)))
          clear hC9 KR KB1 KB2 X0 X1 X2 X3 X4
          go_wp2_with fail
          go_ret
          rw [HRS.out]
          refine ⟨ret_bool ?_, ⟨_, _, _, HB9.out⟩, HBel9.out⟩
          first | (show false = (true && (line.toList == T.toList) && decide (b.rules.length + b.proms.length = 0)); rw [decide_eq_false hz, Bool.and_false]; done) | (simp [hq, hz]; done) | (rw [hzI]; simp [hq, hz]; done) | (rw [hzI]; have : decide (b.rules.length + b.proms.length = 0) = false := decide_eq_false hz; rw [this]; simp)

end Go.Proofs.YtmhloapjadhifaaGreatDoor

namespace Go.Proofs.YtmhloapjadhifaaGreatDoor
set_option linter.unusedVariables false
set_option linter.unusedSimpArgs false
open Go Go.RowKit

theorem ixN_cases (s : ByteArray) : (ixN s = -1) ∨ ∃ k : Nat, ixN s = (k : Int) ∧ k < s.size := by
  have hge := Lib.indexByte_ge s.data.toList 10
  by_cases h : ixN s = -1
  · exact .inl h
  · refine .inr ⟨(ixN s).toNat, ?_, ?_⟩
    · have : -1 ≤ ixN s := hge
      omega
    · have he : Lib.indexByte s.data.toList 10 = ((ixN s).toNat : Int) := by
        have : -1 ≤ ixN s := hge
        show ixN s = _
        omega
      have := (Lib.indexByte_some he).1
      have h2 := (List.getElem?_eq_some_iff.1 this).1
      rwa [Array.length_toList] at h2

set_option maxRecDepth 100000 in
set_option maxHeartbeats 1000000 in
theorem cut2_any (s : ByteArray) (hs : s.size ≤ 4096) (w : World) :
    Calls Tryz.prog 133 #[.string s, .string ⟨#[10]⟩] w fun e w' => e = .returned (.tuple #[.string (lineN s), .string (restN s), .bool (decide (0 ≤ ixN s))]) ∧ Below w.heap.size w w' := by
  rcases ixN_cases s with h | ⟨k, h, hk⟩
  · have e1 : lineN s = s := by unfold lineN; rw [h]; rfl
    have e2 : restN s = ⟨#[]⟩ := by unfold restN; rw [h]; rfl
    have e3 : decide (0 ≤ ixN s) = false := by rw [h]; rfl
    have HI : Hid (∀ wx, Calls Tryz.prog 143 #[.string s, .string ⟨#[10]⟩] wx fun e w' => e = .returned (.int .i64 (-1)) ∧ w' = wx) := fun wx => by
      have := Tryz.stringslite_Index_one s 10 wx
      rw [show Lib.indexByte s.data.toList 10 = -1 from h] at this
      exact this
    rw [e1, e2, e3]
    clear e1 e2 e3 h
    go_enter Tryz.func133, Tryz.ntmps133
    go_wp2_with fail
    refine (HI.out _).mono ?_
    rintro e w' ⟨rfl, rfl⟩
    go_wp2_with fail
    go_ret3
    exact ⟨rfl, Below.refl _ _⟩
  · have e1 : lineN s = s.extract 0 k := by unfold lineN; rw [h, if_pos (by omega)]; rfl
    have e2 : restN s = s.extract (k + 1) s.size := by unfold restN; rw [h, if_pos (by omega)]; rfl
    have e3 : decide (0 ≤ ixN s) = true := by rw [h]; exact decide_eq_true (by omega)
    have HI : Hid (∀ wx, Calls Tryz.prog 143 #[.string s, .string ⟨#[10]⟩] wx fun e w' => e = .returned (.int .i64 (k : Int)) ∧ w' = wx) := fun wx => by
      have := Tryz.stringslite_Index_one s 10 wx
      rw [show Lib.indexByte s.data.toList 10 = (k : Int) from h] at this
      exact this
    have HL := hidIt e1
    have HR := hidIt e2
    have HD := hidIt e3
    generalize lineN s = A at *
    generalize restN s = B at *
    generalize decide (0 ≤ ixN s) = D at *
    have c1 : (0 : Int) ≤ (k : Int) := by omega
    have c2 : (k : Int) ≤ (s.size : Int) := by omega
    have c3 : (0 : Int) ≤ (k : Int) + 1 := by omega
    have c4 : (k : Int) + 1 ≤ (s.size : Int) := by omega
    have c5 : k ≤ s.size := by omega
    have c6 : k + 1 ≤ s.size := by omega
    clear h e1 e2 e3
    go_enter Tryz.func133, Tryz.ntmps133
    go_wp2_with fail
    refine (HI.out _).mono ?_
    rintro e w' ⟨rfl, rfl⟩
    go_wp2_with fail
    go_region
    go_wp2_with fail
    all_goals
      go_ret3
      refine ⟨?_, (Below.refl _ _).drew⟩
      rw [HL.out, HR.out, HD.out]
      rfl

theorem cut5_any (s : ByteArray) (hs : s.size ≤ 4096) (w : World) :
    Calls Tryz.prog 84 #[.string s, .string ⟨#[10]⟩] w fun e w' => e = .returned (.tuple #[.string (lineN s), .string (restN s), .bool (decide (0 ≤ ixN s))]) ∧ Below w.heap.size w w' := by
  go_enter Tryz.func84, Tryz.ntmps84
  go_wp2_with fail
  refine (cut2_any s hs _).mono ?_
  rintro e w' ⟨rfl, hb⟩
  go_wp2_with fail
  go_ret3
  exact ⟨rfl, hb⟩

theorem addLine_any (E B Rb : Nat) (b : Bs) (pv rv qv : Value) (line : ByteArray) (hline : line.size ≤ 4096) (w : World) (hb : BsIn w B Rb b pv rv qv) (hE : EnvUp E w) (hEB : E ≤ Rb) (hB : B ≤ w.heap.size) (hn1 : b.prems.length ≤ 5000) (hn2 : b.rules.length ≤ 5000) (hn3 : b.proms.length ≤ 5000) :
    Calls Tryz.prog 85 #[.pointer (some ⟨Rb, 0, none⟩), .string line] w fun e w' => e = .returned (.bool (addL b line).2) ∧ (∃ pv' rv' qv', BsIn w' B Rb (addL b line).1 pv' rv' qv') ∧ Below Rb w w' := by
  cases h1 : (isStrict (hdW (wordsOf line)) || isRule (hdW (wordsOf line)))
  · cases h2 : isPromote (hdW (wordsOf line))
    · exact addLine_prem E B Rb b pv rv qv line hline w hb hE hEB hB hn1 hn2 hn3 h1 h2
    · exact addLine_prom E B Rb b pv rv qv line hline w hb hE hEB hB hn1 hn2 hn3 h1 h2
  · exact addLine_rule E B Rb b pv rv qv line hline w hb hE hEB hB hn1 hn2 hn3 _ rfl h1

theorem ok_of_le {n : Nat} (h : n ≤ 12) : n ≤ maxLen := by unfold maxLen; omega
theorem snoc_all {α : Type} {P : α → Prop} {xs : List α} {x : α} (h : ∀ y ∈ xs, P y) (hx : P x) : ∀ y ∈ xs ++ [x], P y := fun y hy => by
  rcases List.mem_append.1 hy with h1 | h1
  · exact h y h1
  · rw [List.mem_singleton.1 h1]; exact hx
theorem and3_l {a b c : Bool} (h : (!a && b && c) = true) : a = false := by cases a <;> simp_all
theorem and2_l {a b : Bool} (h : (!a && b) = true) : a = false := by cases a <;> simp_all
/-- A line that may be added adds what fits. -/
theorem addL_ok {b : Bs} {line : ByteArray} (hline : line.size ≤ 4096) (h : (addL b line).2 = true) (hb : BsOk b) : BsOk (addL b line).1 := by
  have hwt : (wordsOf line).tail.length ≤ 5000 := by have := (words_len line hline).1; rw [List.length_tail]; omega
  unfold addL addL2 at *
  split at h
  · rename_i h1
    rw [if_pos h1]
    obtain ⟨f1, f2, f3, f4, -⟩ := rdRule_fit (st := isStrict (hdW (wordsOf line))) (r := ⟨(wordsOf line).tail, false⟩) hwt (and3_l h)
    exact ⟨hb.1, snoc_all hb.2.1 ⟨ok_of_le f1, ⟨by omega, by omega⟩, ok_of_le f3, fun x hx => ok_of_le (f4 x hx)⟩, hb.2.2⟩
  · rename_i h1
    rw [if_neg h1]
    split at h
    · rename_i h2
      rw [if_pos h2]
      obtain ⟨f1, f2, f3⟩ := rdProm_fit (r := ⟨(wordsOf line).tail, false⟩) (and2_l h)
      exact ⟨hb.1, hb.2.1, snoc_all hb.2.2 ⟨ok_of_le f2, ⟨by omega, by omega⟩, ok_of_le f3⟩⟩
    · rename_i h2
      rw [if_neg h2]
      obtain ⟨f1, f2, f3, f4⟩ := rdPrem_fit (s := hdW (wordsOf line)) (r := ⟨(wordsOf line).tail, false⟩) (and3_l h)
      refine ⟨snoc_all hb.1 ⟨ok_of_le f4, ok_of_le f3, ?_, ⟨by omega, by omega⟩⟩, hb.2.1, hb.2.2⟩
      rcases f1 with h | h | h <;> rw [h] <;> exact ⟨by decide, by decide⟩
/-- A line makes each of the three lists longer by one at most. -/
theorem addL_len (b : Bs) (line : ByteArray) : (addL b line).1.prems.length ≤ b.prems.length + 1 ∧ (addL b line).1.rules.length ≤ b.rules.length + 1 ∧ (addL b line).1.proms.length ≤ b.proms.length + 1 := by
  unfold addL addL2
  split
  · simp [addRu]
  · split
    · simp [addPr]
    · simp [addPm]
theorem lineN_size (s : ByteArray) : (lineN s).size ≤ s.size := by
  unfold lineN
  split
  · rw [ByteArray.size_extract]; omega
  · exact Nat.le_refl _
theorem restN_size (s : ByteArray) (h : 0 ≤ ixN s) : (restN s).size + 1 ≤ s.size := by
  rcases ixN_cases s with h1 | ⟨k, h1, hk⟩
  · omega
  · unfold restN
    rw [if_pos h, ByteArray.size_extract, h1]
    simp
    omega
end Go.Proofs.YtmhloapjadhifaaGreatDoor

namespace Go.Proofs.YtmhloapjadhifaaGreatDoor
set_option linter.unusedVariables false
set_option linter.unusedSimpArgs false
open Go Go.RowKit

theorem empty_of_size {s : ByteArray} (h : s.size = 0) : s = ⟨#[]⟩ := by apply ByteArray.ext; exact Array.eq_empty_of_size_eq_zero h
theorem notEmpty {s : ByteArray} (h0 : ¬ s.size = 0) : s.toList.isEmpty = false ∧ ¬ s.toList = [] := by
  have hne : s.toList.isEmpty = false := by
    rw [Lib.toList_data]
    cases h : s.data.toList with
    | nil => exact absurd (by show s.data.size = 0; rw [← Array.length_toList, h]; rfl) h0
    | cons a l => rfl
  exact ⟨hne, fun h => by rw [h] at hne; cases hne⟩
theorem linesE_stop {f n : Nat} {b : Bs} {s : ByteArray} (h : s.size = 0) : linesE (f + 1) n b s = (b, 0) := by rw [linesE, if_pos h]
theorem linesE_bad {f n : Nat} {b : Bs} {s : ByteArray} (h : ¬ s.size = 0) (hb : (decide (0 ≤ ixN s) && (addL b (lineN s)).2) = false) : linesE (f + 1) n b s = (b, n) := by rw [linesE, if_neg h, if_neg (by rw [hb]; decide)]
theorem linesE_good {f n : Nat} {b : Bs} {s : ByteArray} (h : ¬ s.size = 0) (hb : (decide (0 ≤ ixN s) && (addL b (lineN s)).2) = true) : linesE (f + 1) n b s = linesE f (n + 1) (addL b (lineN s)).1 (restN s) := by rw [linesE, if_neg h, if_pos hb]
def noBs : Bs := ⟨[], [], []⟩
theorem noBase (w : World) : BaseAt w (.agg #[.slice none 0 0, .slice none 0 0, .slice none 0 0]) noBs := ⟨_, _, _, rfl, .inl ⟨rfl, rfl⟩, .inl ⟨rfl, rfl⟩, .inl ⟨rfl, rfl⟩⟩

theorem BsIn.set {w : World} {B R : Nat} {b : Bs} {pv rv qv : Value} {g i : Nat} {u : Value} (h : BsIn w B R b pv rv qv) (hg : g < R) : BsIn (w.setCell ⟨g, i, none⟩ u) B R b pv rv qv := by
  have hlt := h.lt
  have hk : ∀ k, R ≤ k → (w.setCell ⟨g, i, none⟩ u).heap[k]? = w.heap[k]? := fun k hk => Below.heap_setCell w ⟨g, i, none⟩ u k (by show k ≠ g; omega)
  exact ⟨(hk R (Nat.le_refl _)).trans h.box, h.lt, owns_kept h.p fun k e => hk k (by have := (owns_blk h.p k e).1; omega), h.r.kept (fun k e => hk k (by have := (h.r.blk k e).1; omega)) (fun k hS _ => hk k (by have := hS.1; omega)) (by rw [size_setCell]; exact Nat.le_refl _) (fun k hS _ => hS), owns_kept h.q fun k e => hk k (by have := (owns_blk h.q k e).1; omega), h.pr, h.pq, h.rq⟩
theorem parse5a_bad (b : Bs) (n : Nat) : parse5a (b, n + 1) = (noBs, n + 1, 3) := by unfold parse5a; rw [if_pos (by show n + 1 ≠ 0; omega)]; rfl

set_option maxRecDepth 100000 in
set_option maxHeartbeats 4000000 in
theorem bparse_any (s : ByteArray) (hs : s.size ≤ maxLen) (w : World) (hE : EnvOk w) :
    Calls Tryz.prog 35 #[.string s] w fun e w' => ∃ v : Value, e = .returned (.tuple #[v, .int .i64 ((parse5 s).2.1 : Int), .int .i64 (parse5 s).2.2]) ∧ BaseAt w' v (parse5 s).1 ∧ Below w.heap.size w w' := by
  unfold maxLen at hs
  by_cases hlong : 4096 < s.size
  · have HP : Hid (parse5 s = (noBs, 0, 2)) := by show _ = _; unfold parse5; rw [if_pos hlong]; rfl
    have hl : (4096 : Int) < (s.size : Int) := by omega
    clear hlong hE
    go_enter Tryz.func35, Tryz.ntmps35
    go_wp2_with fail
    refine bodyPost_ret (v := .tuple #[.agg #[.slice none 0 0, .slice none 0 0, .slice none 0 0], .int .i64 0, .int .i64 2]) (by simp [results, Tryz.results35, go_sem]) rfl ?_
    rw [HP.out]
    exact ⟨_, rfl, noBase _, by repeat (first | exact bgrow w _ | refine below_set5 ?_ (Nat.le_refl _))⟩
  have hl : decide ((4096 : Int) < (s.size : Int)) = false := by simp; omega
  have HP : Hid (parse5 s = parse5a (linesE (s.size + 1) 1 noBs s)) := by show _ = _; unfold parse5; rw [if_neg hlong]; rfl
  have hs4 : s.size ≤ 4096 := by omega
  generalize parse5 s = PR at *
  obtain ⟨n0, hn0⟩ : ∃ n0, n0 = s.size := ⟨_, rfl⟩
  rw [← hn0] at HP
  have HLE : Hid (linesE (n0 + 1) 1 noBs s = linesE (n0 + 1) 1 noBs s) := by show _ = _; rfl
  have hn4 : n0 ≤ 4096 := by omega
  generalize hLE : linesE (n0 + 1) 1 noBs s = LE at HP
  have HL0 := hidIt hLE.symm
  have HZ := hidIt (heap_alloc_new w (.cells #[.slice none 0 0, .slice none 0 0, .slice none 0 0] 26))
  have hz1 := size_alloc w (.cells #[.slice none 0 0, .slice none 0 0, .slice none 0 0] 26)
  have HBN := hidIt (BsIn.new (w.alloc (.cells #[.slice none 0 0, .slice none 0 0, .slice none 0 0] 26)))
  have HZ2 := hidIt (blk_kept2 HZ.out (bgrow (w.alloc (.cells #[.slice none 0 0, .slice none 0 0, .slice none 0 0] 26)) (.cells #[.slice none 0 0, .slice none 0 0, .slice none 0 0] 26)))
  have HB0 := hidIt (bgrow2 w (.cells #[.slice none 0 0, .slice none 0 0, .slice none 0 0] 26) (.cells #[.slice none 0 0, .slice none 0 0, .slice none 0 0] 26))
  have HE0 := hidIt (EnvUp.start hE)
  rw [hz1] at HBN
  clear hLE HLE hE hlong HZ hz1 hs
  go_enter Tryz.func35, Tryz.ntmps35
  go_wp2_with fail
  generalize ((w.alloc (.cells #[.slice none 0 0, .slice none 0 0, .slice none 0 0] 26)).alloc (.cells #[.slice none 0 0, .slice none 0 0, .slice none 0 0] 26)) = w0 at *
  go_loopw [0, 6] (fun v0 v6 wr => ∃ (k : Nat) (sv : ByteArray) (bb : Bs) (pv rv qv : Value), v0 = .string sv ∧ v6 = .int .i64 ((k + 1 : Nat) : Int) ∧ sv.size + k ≤ n0 ∧ Hid (LE = linesE (n0 + 1 - k) (k + 1) bb sv) ∧ Hid (BsIn wr (w.heap.size + 1 + 1) (w.heap.size + 1) bb pv rv qv) ∧ Hid (BsOk bb) ∧
    Hid (bb.prems.length ≤ k ∧ bb.rules.length ≤ k ∧ bb.proms.length ≤ k) ∧ Hid (wr.heap[w.heap.size]? = some (.cells #[.slice none 0 0, .slice none 0 0, .slice none 0 0] 26 (0, 0))) ∧ Hid (Below w.heap.size w wr)) (fun v0 _ _ => match v0 with | .string x => x.size | _ => 0)
  case atStart => exact ⟨0, s, noBs, _, _, _, rfl, rfl, by omega, HL0.out, HBN.out, ⟨fun p hp => by simp [noBs] at hp, fun p hp => by simp [noBs] at hp, fun p hp => by simp [noBs] at hp⟩, ⟨by simp [noBs], by simp [noBs], by simp [noBs]⟩, HZ2.out, HB0.out⟩
  case round =>
    clear HL0 HBN HZ2 HB0
    obtain ⟨k, sv, bb, pv, rv, qv, rfl, rfl, hsk, HLr, HBr, HOr, HCr, HZr, HWr⟩ := hrel
    have hfu : n0 + 1 - k = (n0 - k) + 1 := by omega
    rw [hfu] at HLr
    clear hfu
    have hszr : w.heap.size + 1 + 1 ≤ wr.heap.size := by have := lt_of_block HBr.out.box; omega
    by_cases hz : sv.size = 0
    · have HLz : Hid (LE = (bb, 0)) := by show _ = _; rw [HLr.out, linesE_stop hz]
      obtain rfl := empty_of_size hz
      obtain ⟨ap, cp, rfl, -, -⟩ := shape_own HBr.out.p
      obtain ⟨aq, cq, rfl, -, -⟩ := shape_own HBr.out.q
      obtain ⟨ar, cr, rfl, -, -⟩ := (show ∃ (a : Option Addr) (c : Nat), rv = .slice a bb.rules.length c ∧ bb.rules.length ≤ c ∧ c ≤ maxLen by obtain ⟨bs, -, ho, -⟩ := HBr.out.r; exact shape_own ho)
      obtain ⟨b0, b1, b2⟩ := bcell3 HBr.out.box
      have lb := lt_of_block HBr.out.box
      clear HLr
      go_wp2_with fail
      refine (bvalidate_any bb HOr.out _ _ HBr.out.base).mono ?_
      rintro e w1 ⟨rfl, hb1⟩
      have HB1 := hidIt (HBr.out.go hb1)
      have HZ1 := hidIt (blk_kept2 HZr.out hb1)
      have HW1 := hidIt (HWr.out.trans (Below.mono hb1 (by omega)))
      have hs1 := hb1.size
      clear hb1 HBr HZr HWr b0 b1 b2 lb
      obtain ⟨b0, b1, b2⟩ := bcell3 HB1.out.box
      obtain ⟨z0, z1, z2⟩ := bcell3 HZ1.out
      have f0 := free_any HZ1.out 0
      have f1 := free_any HZ1.out 1
      have f2 := free_any HZ1.out 2
      have lb := lt_of_block HB1.out.box
      have lz := lt_of_block HZ1.out
      have HPb : Hid (PR = if baseE bb ≠ 0 then (noBs, 0, baseE bb) else (bb, 0, 0)) := by show _ = _; rw [HP.out, HLz.out]; rfl
      clear HP HLz
      generalize baseE bb = z at *
      by_cases hzz : z = 0
      · subst hzz
        have HPc : Hid (PR = (bb, 0, 0)) := by show _ = _; rw [HPb.out, if_neg (by decide)]
        clear HPb
        go_wp2_with fail
        refine bodyPost_ret (v := .tuple #[.agg #[.slice ap bb.prems.length cp, .slice ar bb.rules.length cr, .slice aq bb.proms.length cq], .int .i64 0, .int .i64 0]) (by simp [results, Tryz.results35, go_sem, z0, z1, z2, lz]) rfl ?_
        rw [HPc.out]
        refine ⟨_, rfl, BsIn.base (B := w.heap.size + 1 + 1) (R := w.heap.size + 1) ?_, ?_⟩
        · repeat refine BsIn.set ?_ (by omega)
          exact HB1.out
        · repeat refine below_set5 ?_ (Nat.le_refl _)
          exact HW1.out
      · have hzb : (z == 0) = false := beq_eq_false_iff_ne.2 hzz
        have HPc : Hid (PR = (noBs, 0, z)) := by show _ = _; rw [HPb.out, if_pos hzz]
        clear HPb
        go_wp2_with fail
        refine bodyPost_ret (v := .tuple #[.agg #[.slice none 0 0, .slice none 0 0, .slice none 0 0], .int .i64 0, .int .i64 z]) (by simp [results, Tryz.results35, go_sem, z0, z1, z2, lz]) rfl ?_
        rw [HPc.out]
        refine ⟨_, rfl, noBase _, ?_⟩
        repeat refine below_set5 ?_ (Nat.le_refl _)
        exact HW1.out
    · obtain ⟨hne1, hne2⟩ := notEmpty hz
      have hsv : sv.size ≤ 4096 := by omega
      have HCUT := hidIt (cut5_any sv hsv)
      have hls : (lineN sv).size ≤ 4096 := Nat.le_trans (lineN_size sv) hsv
      go_wp2_with fail
      refine (HCUT.out _).mono ?_
      rintro e w1 ⟨rfl, hb1⟩
      have HB1 := hidIt (HBr.out.go hb1)
      have HZ1 := hidIt (blk_kept2 HZr.out hb1)
      have HW1 := hidIt (HWr.out.trans (Below.mono hb1 (by omega)))
      have HE1 := hidIt (HE0.out.go HW1.out)
      have hs1 := hb1.size
      clear hb1 HBr HZr HWr HCUT
      have HXOK := hidIt (fun h => addL_ok (b := bb) (line := lineN sv) hls h HOr.out)
      have HXLN := hidIt (addL_len bb (lineN sv))
      have HRST := hidIt (restN_size sv)
      have HADD := hidIt (addLine_any w.heap.size (w.heap.size + 1 + 1) (w.heap.size + 1) bb pv rv qv (lineN sv) hls w1 HB1.out HE1.out (by omega) (by omega) (by have := HCr.out; omega) (by have := HCr.out; omega) (by have := HCr.out; omega))
      have HLB := hidIt (fun h => linesE_bad (f := n0 - k) (n := k + 1) (b := bb) hz h)
      have HLG := hidIt (fun h => linesE_good (f := n0 - k) (n := k + 1) (b := bb) hz h)
      generalize addL bb (lineN sv) = X at *
      generalize lineN sv = ln at *
      generalize restN sv = rs at *
      cases hD : decide (0 ≤ ixN sv)
      case false =>
        have HPX : Hid (PR = (noBs, k + 1, 3)) := by show _ = _; rw [HP.out, HLr.out, HLB.out (by first | rfl | (rw [hD]; rfl)), parse5a_bad]
        have HZX := HZ1
        have HWX := HW1
        clear HXOK HXLN HRST HADD HLB HLG HP HLr HB1 HZ1 HW1
        obtain ⟨z0, z1, z2⟩ := bcell3 HZX.out
        have f0 := free_any HZX.out 0
        have f1 := free_any HZX.out 1
        have f2 := free_any HZX.out 2
        have lz := lt_of_block HZX.out
        go_wp2_with fail
        refine bodyPost_ret (v := .tuple #[.agg #[.slice none 0 0, .slice none 0 0, .slice none 0 0], .int .i64 ((k + 1 : Nat) : Int), .int .i64 3]) (by simp [results, Tryz.results35, go_sem, z0, z1, z2, lz]) rfl ?_
        rw [HPX.out]
        refine ⟨_, rfl, noBase _, ?_⟩
        repeat refine below_set5 ?_ (Nat.le_refl _)
        exact HWX.out
      case true =>
        have hR2 := HRST.out (of_decide_eq_true hD)
        try rw [hD] at HLB HLG
        go_wp2_with fail
        refine HADD.out.mono ?_
        rintro e w2 ⟨rfl, ⟨pv', rv', qv', hb2⟩, hbel2⟩
        have HB2 := hidIt hb2
        have HZ2 := hidIt ((hbel2.block w.heap.size (by omega)).trans HZ1.out)
        have HW2 := hidIt (HW1.out.trans (Below.mono hbel2 (by omega)))
        clear hb2 hbel2 HB1 HZ1 HW1 HE1 HADD HRST
        obtain ⟨xb, xo⟩ := X
        cases xo
        case false =>
          have HPX : Hid (PR = (noBs, k + 1, 3)) := by show _ = _; rw [HP.out, HLr.out, HLB.out rfl, parse5a_bad]
          have HZX := HZ2
          have HWX := HW2
          clear HXOK HXLN HLB HLG HP HLr HB2 HZ2 HW2
          obtain ⟨z0, z1, z2⟩ := bcell3 HZX.out
          have f0 := free_any HZX.out 0
          have f1 := free_any HZX.out 1
          have f2 := free_any HZX.out 2
          have lz := lt_of_block HZX.out
          go_wp2_with fail
          refine bodyPost_ret (v := .tuple #[.agg #[.slice none 0 0, .slice none 0 0, .slice none 0 0], .int .i64 ((k + 1 : Nat) : Int), .int .i64 3]) (by simp [results, Tryz.results35, go_sem, z0, z1, z2, lz]) rfl ?_
          rw [HPX.out]
          refine ⟨_, rfl, noBase _, ?_⟩
          repeat refine below_set5 ?_ (Nat.le_refl _)
          exact HWX.out
        case true =>
          have HLN : Hid (LE = linesE (n0 + 1 - (k + 1)) (k + 1 + 1) xb rs) := by
            show _ = _
            rw [HLr.out, HLG.out rfl, show n0 + 1 - (k + 1) = n0 - k by omega]
          have HOX := hidIt (HXOK.out rfl)
          have HCX : Hid (xb.prems.length ≤ k + 1 ∧ xb.rules.length ≤ k + 1 ∧ xb.proms.length ≤ k + 1) := by
            have h1 := HXLN.out
            have h2 := HCr.out
            simp only at h1
            exact ⟨by omega, by omega, by omega⟩
          clear HXOK HXLN HLB HLG HLr HCr HOr
          go_wp2_with fail
          go_roundw
          case rel => exact ⟨k + 1, rs, xb, pv', rv', qv', rfl, by go_num, by omega, HLN.out, HB2.out, HOX.out, HCX.out, HZ2.out, HW2.out⟩
          case measure => simp; omega
end Go.Proofs.YtmhloapjadhifaaGreatDoor

namespace Go.Proofs.YtmhloapjadhifaaGreatDoor
set_option linter.unusedVariables false
set_option linter.unusedSimpArgs false
open Go Go.RowKit Go.Sort

section
variable {α : Type} [DecidableEq α]
theorem compactUpTo_facts5 [Inhabited α] (R : α → α → Prop) (hR : ∀ a b, R a b → R b a → a = b) (d : Array α) (hp : ∀ i j, i < j → j < d.size → R d[i]! d[j]!) :
    ∀ m, m ≤ d.size → (Lib.compactUpTo d m).Nodup ∧ ∀ x, x ∈ Lib.compactUpTo d m ↔ ∃ j, j < m ∧ d[j]! = x := by
  intro m
  induction m with
  | zero => intro _; exact ⟨by simp [Lib.compactUpTo], fun x => by simp [Lib.compactUpTo]⟩
  | succ m ih =>
    intro hm
    obtain ⟨h1, h2⟩ := ih (by omega)
    rw [Lib.compactUpTo_succ]
    cases hk : Lib.keeps d m
    · have hneg : ¬ (m = 0 ∨ d[m]! ≠ d[m - 1]!) := by simpa [Lib.keeps] using hk
      have hm0 : 0 < m := by omega
      have he : d[m]! = d[m - 1]! := Classical.byContradiction fun e => hneg (.inr e)
      simp only [Bool.false_eq_true, if_false, List.append_nil]
      refine ⟨h1, fun x => (h2 x).trans ⟨fun ⟨j, hj, e⟩ => ⟨j, by omega, e⟩, fun ⟨j, hj, e⟩ => ?_⟩⟩
      by_cases hjm : j = m
      · subst hjm
        exact ⟨j - 1, by omega, by rw [← he]; exact e⟩
      · exact ⟨j, by omega, e⟩
    · have hpos : m = 0 ∨ d[m]! ≠ d[m - 1]! := by simpa [Lib.keeps] using hk
      simp only [if_true]
      have hnot : d[m]! ∉ Lib.compactUpTo d m := fun hmem => by
        obtain ⟨j, hj, e⟩ := (h2 _).1 hmem
        rcases hpos with h0 | hne
        · omega
        · by_cases hjm : j = m - 1
          · subst hjm; exact hne e.symm
          · have r1 := hp j (m - 1) (by omega) (by omega)
            have r2 := hp (m - 1) m (by omega) (by omega)
            rw [← e] at r2
            have := hR _ _ r1 r2
            exact hne (by rw [← e, this])
      refine ⟨?_, fun x => ?_⟩
      · rw [List.nodup_append]
        refine ⟨h1, by simp, fun a ha b hb => ?_⟩
        rw [List.mem_singleton] at hb
        subst hb
        exact fun e => hnot (e ▸ ha)
      · rw [List.mem_append, List.mem_singleton, h2 x]
        constructor
        · rintro (⟨j, hj, e⟩ | e)
          · exact ⟨j, by omega, e⟩
          · exact ⟨m, by omega, e.symm⟩
        · rintro ⟨j, hj, e⟩
          by_cases hjm : j = m
          · subst hjm; exact .inr e.symm
          · exact .inl ⟨j, by omega, e⟩

theorem compact_facts5 [Inhabited α] (R : α → α → Prop) (hR : ∀ a b, R a b → R b a → a = b) (l : List α) (hp : l.Pairwise R) :
    (Lib.compactUpTo l.toArray l.toArray.size).Nodup ∧ ∀ x, x ∈ Lib.compactUpTo l.toArray l.toArray.size ↔ x ∈ l := by
  have h := compactUpTo_facts5 R hR l.toArray (fun i j hij hj => by
    have hj' : j < l.length := by simpa using hj
    rw [List.getElem!_toArray, List.getElem!_toArray, getElem!_pos l i (by omega), getElem!_pos l j hj']
    exact List.pairwise_iff_getElem.1 hp i j (by omega) hj' hij) l.toArray.size (Nat.le_refl _)
  refine ⟨h.1, fun x => (h.2 x).trans ⟨fun ⟨j, hj, e⟩ => ?_, fun hx => ?_⟩⟩
  · have hj' : j < l.length := by simpa using hj
    rw [List.getElem!_toArray, getElem!_pos l j hj'] at e
    rw [← e]; exact List.getElem_mem hj'
  · obtain ⟨j, hj, e⟩ := List.getElem_of_mem hx
    exact ⟨j, by simpa using hj, by rw [List.getElem!_toArray, getElem!_pos l j hj]; exact e⟩
end

theorem nrm_facts5 (xs : List Lt) : (nrm xs).Nodup ∧ ∀ x, x ∈ nrm xs ↔ x ∈ xs := by
  have h := compact_facts5 (fun a b : Lt => (!ltOf cmpI b a) = true) (fun a b h1 h2 => by
    simp only [Bool.not_eq_true'] at h1 h2
    exact lt_total a b h2 h1) (srt xs) (srt_pair xs)
  exact ⟨h.1, fun x => (h.2 x).trans (List.mergeSort_perm xs _).mem_iff⟩

theorem compactUpTo_sub5 (d : Array Lt) (m : Nat) (hm : m ≤ d.size) : (Lib.compactUpTo d m).Sublist (d.toList.take m) := by
  unfold Lib.compactUpTo
  have e : d.toList.take m = (List.range m).map (d[·]!) := by
    apply List.ext_getElem
    · simp; omega
    · intro i h1 h2
      have hi : i < m := by simpa using h2
      simp only [List.getElem_take, List.getElem_map, List.getElem_range, Array.getElem_toList]
      rw [getElem!_pos d i (by omega)]
  rw [e]
  exact List.filter_sublist.map _

theorem nrm_pair5 (zs : List Lt) : (nrm zs).Pairwise fun a b => (!ltOf cmpI b a) = true := by
  have h := compactUpTo_sub5 (srt zs).toArray _ (Nat.le_refl _)
  have h2 : ((srt zs).toArray.toList.take (srt zs).toArray.size) = srt zs := by simp
  rw [h2] at h
  exact (srt_pair zs).sublist h

theorem nrm_self (xs : List Lt) : xs = nrm xs ↔ xs.Pairwise fun a b => ltOf cmpI a b = true := by
  obtain ⟨n1, m1⟩ := nrm_facts5 xs
  have hp := nrm_pair5 xs
  constructor
  · intro h
    rw [← h] at n1 hp
    have n2 : xs.Pairwise fun a b => a ≠ b := n1
    refine (hp.and n2).imp fun {a b} hh => ?_
    obtain ⟨hab, hne⟩ := hh
    cases hlt : ltOf cmpI a b
    · exact absurd (lt_total a b hlt (by simpa using hab)) hne
    · rfl
  · intro h
    have hle : xs.Pairwise fun a b => (!ltOf cmpI b a) = true := h.imp fun {a b} hab => by
      cases k : ltOf cmpI b a
      · rfl
      · have := swo.trans a b a hab k
        rw [swo.irrefl] at this
        cases this
    have hnd : xs.Nodup := h.imp fun {a b} hab e => by
      subst e
      rw [swo.irrefl] at hab
      cases hab
    exact List.Perm.eq_of_pairwise (le := fun a b => (!ltOf cmpI b a) = true) (fun a b _ _ h1 h2 => by
      simp only [Bool.not_eq_true'] at h1 h2
      exact lt_total a b h2 h1) hle hp ((List.perm_ext_iff_of_nodup hnd n1).2 (fun x => (m1 x).symm))

/-- The same error of a rule, and of a base, with the body's order asked for as it stands. -/
def ruleE5 (b : Bs) (r : Ru) (i : Nat) : Int := if 4 < r.body.length then 2 else if ruleB r = false then 1 else if decide (r.body.Pairwise fun a b => ltOf cmpI a b = true) = false then 8 else if posI (hasName r.name) b.rules < (i : Int) then 5 else 0
theorem ruleE5_eq (b : Bs) (r : Ru) (i : Nat) : ruleE b r i = ruleE5 b r i := by
  unfold ruleE ruleE5
  rw [decide_eq_decide.2 (nrm_self r.body)]
def ruleF5 (b : Bs) (i : Nat) : Int := if h : i < b.rules.length then ruleE5 b b.rules[i] i else 0
def baseE5 (b : Bs) : Int :=
  if 16 < b.prems.length ∨ 24 < b.rules.length ∨ 8 < b.proms.length then 2
  else if errUp (premF b) b.prems.length ≠ 0 then errUp (premF b) b.prems.length
  else if errUp (ruleF5 b) b.rules.length ≠ 0 then errUp (ruleF5 b) b.rules.length
  else errUp (promF b) b.proms.length
theorem baseE5_eq (b : Bs) : baseE b = baseE5 b := by
  have h : ruleF b = ruleF5 b := by
    funext i
    unfold ruleF ruleF5
    simp only [ruleE5_eq]
  unfold baseE baseE5
  rw [h]
end Go.Proofs.YtmhloapjadhifaaGreatDoor

namespace Go.Proofs.YtmhloapjadhifaaGreatDoor
set_option linter.unusedVariables false
set_option linter.unusedSimpArgs false
open Go Go.RowKit

def sampleA : List UInt8 := [97, 120, 105, 111, 109, 32, 112, 10, 112, 114, 101, 109, 105, 115, 101, 32, 113, 32, 51, 32, 102, 114, 111, 109, 32, 97, 110, 110, 10, 115, 116, 114, 105, 99, 116, 32, 115, 49, 58, 32, 112, 44, 32, 113, 32, 45, 62, 32, 114, 10, 114, 117, 108, 101, 32, 100, 49, 32, 50, 58, 32, 114, 32, 61, 62, 32, 126, 116, 10, 112, 114, 111, 109, 111, 116, 101, 32, 100, 49, 32, 53, 32, 105, 102, 32, 113, 10]
def sampleT : ByteArray := ⟨#[97, 120, 105, 111, 109, 32, 112, 10, 112, 114, 101, 109, 105, 115, 101, 32, 113, 32, 51, 32, 102, 114, 111, 109, 32, 97, 110, 110, 10, 115, 116, 114, 105, 99, 116, 32, 115, 49, 58, 32, 112, 44, 32, 113, 32, 45, 62, 32, 114, 10, 114, 117, 108, 101, 32, 100, 49, 32, 50, 58, 32, 114, 32, 61, 62, 32, 126, 116, 10, 112, 114, 111, 109, 111, 116, 101, 32, 100, 49, 32, 53, 32, 105, 102, 32, 113, 10]⟩
def sampleB : Bs := ⟨[⟨⟨false, ⟨#[112]⟩⟩, 1, 0, ⟨#[]⟩⟩, ⟨⟨false, ⟨#[113]⟩⟩, 2, 3, ⟨#[97, 110, 110]⟩⟩], [⟨⟨#[115, 49]⟩, true, 0, [⟨false, ⟨#[112]⟩⟩, ⟨false, ⟨#[113]⟩⟩], ⟨false, ⟨#[114]⟩⟩⟩, ⟨⟨#[100, 49]⟩, false, 2, [⟨false, ⟨#[114]⟩⟩], ⟨true, ⟨#[116]⟩⟩⟩], [⟨⟨#[100, 49]⟩, 5, ⟨false, ⟨#[113]⟩⟩⟩]⟩
def text2 : ByteArray := ⟨#[115, 116, 114, 105, 99, 116, 32, 115, 58, 32, 113, 44, 32, 112, 32, 45, 62, 32, 114, 10]⟩
def text3 : ByteArray := ⟨#[97, 120, 105, 111, 109, 32, 112, 10, 114, 117, 108, 101, 32, 100, 32, 49, 50, 58, 32, 61, 62, 32, 112, 10]⟩
theorem base_sample : baseE sampleB = 0 := by rw [baseE5_eq]; kernel_rfl
theorem parse_sample : parse5 sampleT = (sampleB, 0, 0) := by
  have h1 : linesE (sampleT.size + 1) 1 ⟨[], [], []⟩ sampleT = (sampleB, 0) := by kernel_rfl
  unfold parse5
  rw [if_neg (by decide), h1]
  unfold parse5a
  rw [if_neg (by decide), if_neg (by rw [base_sample]; decide)]
def base2 : Bs := (linesE (text2.size + 1) 1 ⟨[], [], []⟩ text2).1
theorem parse_text2 : (parse5 text2).2 = (0, 8) := by
  have h1 : (linesE (text2.size + 1) 1 ⟨[], [], []⟩ text2).2 = 0 := by kernel_rfl
  have h2 : baseE (linesE (text2.size + 1) 1 ⟨[], [], []⟩ text2).1 = 8 := by rw [baseE5_eq]; kernel_rfl
  unfold parse5
  rw [if_neg (by decide)]
  unfold parse5a
  rw [h1, h2, if_neg (by decide), if_pos (by decide)]
theorem parse_text3 : (parse5 text3).2 = (2, 3) := by kernel_rfl
theorem fmt_sample : fmtE5 sampleB = 0 ∧ fmtT5 sampleB = sampleT := by
  have ht : textL sampleB = sampleT := by kernel_rfl
  have he : fmtE5 sampleB = 0 := by
    unfold fmtE5
    rw [if_pos base_sample, ht]
    rfl
  exact ⟨he, by unfold fmtT5; rw [if_pos he, ht]⟩
theorem find_sample : posI (hasName ⟨#[100, 49]⟩) sampleB.rules = 1 := by kernel_rfl
end Go.Proofs.YtmhloapjadhifaaGreatDoor

namespace Go.Proofs.YtmhloapjadhifaaGreatDoor
set_option linter.unusedVariables false
set_option linter.unusedSimpArgs false
open Go Go.RowKit

set_option maxRecDepth 100000 in
set_option maxHeartbeats 4000000 in
theorem awake5_any (w : World) (hE : EnvOk w) :
    Calls Tryz.prog 27 #[] w fun e w' => e = .returned (.bool true) ∧ Below w.heap.size w w' := by
  have HE := hidIt hE
  have HP1 : Hid (∀ wx, EnvOk wx → Calls Tryz.prog 35 #[.string sampleT] wx fun e w' => ∃ v : Value, e = .returned (.tuple #[v, .int .i64 0, .int .i64 0]) ∧ BaseAt w' v sampleB ∧ Below wx.heap.size wx w') := fun wx hx => by
    have := bparse_any sampleT (by decide) wx hx
    rw [parse_sample] at this
    exact this
  have HP2 : Hid (∀ wx, EnvOk wx → Calls Tryz.prog 35 #[.string text2] wx fun e w' => ∃ v : Value, e = .returned (.tuple #[v, .int .i64 0, .int .i64 8]) ∧ BaseAt w' v (parse5 text2).1 ∧ Below wx.heap.size wx w') := fun wx hx => by
    have := bparse_any text2 (by decide) wx hx
    rw [parse_text2] at this
    exact this
  have HP3 : Hid (∀ wx, EnvOk wx → Calls Tryz.prog 35 #[.string text3] wx fun e w' => ∃ v : Value, e = .returned (.tuple #[v, .int .i64 2, .int .i64 3]) ∧ BaseAt w' v (parse5 text3).1 ∧ Below wx.heap.size wx w') := fun wx hx => by
    have := bparse_any text3 (by decide) wx hx
    rw [parse_text3] at this
    exact this
  have hbok : BsOk sampleB := by
    have : ∀ n : Nat, n ≤ 12 → n ≤ maxLen := fun n h => by unfold maxLen; omega
    refine ⟨fun p hp => ?_, fun p hp => ?_, fun p hp => ?_⟩
    · simp only [sampleB, List.mem_cons, List.not_mem_nil, or_false] at hp
      rcases hp with rfl | rfl
      · exact ⟨this _ (by decide), this _ (by decide), ⟨by decide, by decide⟩, ⟨by decide, by decide⟩⟩
      · exact ⟨this _ (by decide), this _ (by decide), ⟨by decide, by decide⟩, ⟨by decide, by decide⟩⟩
    · simp only [sampleB, List.mem_cons, List.not_mem_nil, or_false] at hp
      rcases hp with rfl | rfl
      · refine ⟨this _ (by decide), ⟨by decide, by decide⟩, this _ (by decide), fun x hx => ?_⟩
        simp only [List.mem_cons, List.not_mem_nil, or_false] at hx
        rcases hx with rfl | rfl <;> exact this _ (by decide)
      · refine ⟨this _ (by decide), ⟨by decide, by decide⟩, this _ (by decide), fun x hx => ?_⟩
        simp only [List.mem_cons, List.not_mem_nil, or_false] at hx
        rcases hx with rfl <;> exact this _ (by decide)
    · simp only [sampleB, List.mem_cons, List.not_mem_nil, or_false] at hp
      rcases hp with rfl
      exact ⟨this _ (by decide), ⟨by decide, by decide⟩, this _ (by decide)⟩
  have HF : Hid (∀ wx v, EnvOk wx → BaseAt wx v sampleB → Calls Tryz.prog 28 #[v] wx fun e w' => e = .returned (.tuple #[.string ⟨#[97, 120, 105, 111, 109, 32, 112, 10, 112, 114, 101, 109, 105, 115, 101, 32, 113, 32, 51, 32, 102, 114, 111, 109, 32, 97, 110, 110, 10, 115, 116, 114, 105, 99, 116, 32, 115, 49, 58, 32, 112, 44, 32, 113, 32, 45, 62, 32, 114, 10, 114, 117, 108, 101, 32, 100, 49, 32, 50, 58, 32, 114, 32, 61, 62, 32, 126, 116, 10, 112, 114, 111, 109, 111, 116, 101, 32, 100, 49, 32, 53, 32, 105, 102, 32, 113, 10]⟩, .int .i64 0]) ∧ Below wx.heap.size wx w') := fun wx v hx hv => by
    have := bformat_any sampleB hbok v wx hv hx.words
    rw [fmt_sample.1, fmt_sample.2] at this
    exact this
  have HFI : Hid (∀ wx v, BaseAt wx v sampleB → Calls Tryz.prog 21 #[v, .string ⟨#[100, 49]⟩] wx fun e w' => e = .returned (.int .i64 1) ∧ Below wx.heap.size wx w') := fun wx v hv => by
    have := bfind_any sampleB v ⟨#[100, 49]⟩ wx hv
    rw [find_sample] at this
    exact this
  clear hE hbok
  go_enter Tryz.func27, Tryz.ntmps27
  go_wp2_with fail
  refine (HP1.out _ HE.out).mono ?_
  rintro e w1 ⟨v1, rfl, hv1, hb1⟩
  obtain ⟨a1, a2, a3, c1, c2, c3, rfl, -⟩ := hv1.form
  have HB1 := hidIt (hb1.trans (Below.mono (bgrow w1 (.cells #[.slice a1 sampleB.prems.length c1, .slice a2 sampleB.rules.length c2, .slice a3 sampleB.proms.length c3] 26)) hb1.size))
  have HV1 := hidIt (hv1.below (bgrow w1 (.cells #[.slice a1 sampleB.prems.length c1, .slice a2 sampleB.rules.length c2, .slice a3 sampleB.proms.length c3] 26)))
  have HK1 := hidIt (heap_alloc_new w1 (.cells #[.slice a1 sampleB.prems.length c1, .slice a2 sampleB.rules.length c2, .slice a3 sampleB.proms.length c3] 26))
  clear hv1 hb1
  go_wp2_with fail
  generalize (w1.alloc (.cells #[.slice a1 sampleB.prems.length c1, .slice a2 sampleB.rules.length c2, .slice a3 sampleB.proms.length c3] 26)) = w2 at *
  generalize w1.heap.size = B1 at *
  refine (HF.out _ _ (HE.out.go HB1.out) HV1.out).mono ?_
  rintro e w3 ⟨rfl, hb3⟩
  have HB3 := hidIt (HB1.out.trans (Below.mono hb3 HB1.out.size))
  have HV3 := hidIt (HV1.out.below hb3)
  have HK3 := hidIt (blk_kept2 HK1.out hb3)
  clear hb3 HB1 HV1 HK1
  go_wp2_with fail
  refine (HP2.out _ (HE.out.go HB3.out)).mono ?_
  rintro e w4 ⟨v2, rfl, hv2, hb4⟩
  have HB4 := hidIt (HB3.out.trans (Below.mono hb4 HB3.out.size))
  have HV4 := hidIt (HV3.out.below hb4)
  have HK4 := hidIt (blk_kept2 HK3.out hb4)
  generalize hq2 : (parse5 text2).1 = Q2 at hv2
  clear hq2 hb4 HB3 HV3 HK3
  obtain ⟨d1, d2, d3, e1, e2, e3, rfl, -⟩ := hv2.form
  have HB5 := hidIt (HB4.out.trans (Below.mono (bgrow w4 (.cells #[.slice d1 Q2.prems.length e1, .slice d2 Q2.rules.length e2, .slice d3 Q2.proms.length e3] 26)) HB4.out.size))
  have HV5 := hidIt (HV4.out.below (bgrow w4 (.cells #[.slice d1 Q2.prems.length e1, .slice d2 Q2.rules.length e2, .slice d3 Q2.proms.length e3] 26)))
  have HK5 := hidIt (blk_kept2 HK4.out (bgrow w4 (.cells #[.slice d1 Q2.prems.length e1, .slice d2 Q2.rules.length e2, .slice d3 Q2.proms.length e3] 26)))
  clear hv2 HB4 HV4 HK4
  go_wp2_with fail
  generalize (w4.alloc (.cells #[.slice d1 Q2.prems.length e1, .slice d2 Q2.rules.length e2, .slice d3 Q2.proms.length e3] 26)) = w5 at *
  refine (HP3.out _ (HE.out.go HB5.out)).mono ?_
  rintro e w6 ⟨v3, rfl, hv3, hb6⟩
  have HB6 := hidIt (HB5.out.trans (Below.mono hb6 HB5.out.size))
  have HV6 := hidIt (HV5.out.below hb6)
  have HK6 := hidIt (blk_kept2 HK5.out hb6)
  generalize hq3 : (parse5 text3).1 = Q3 at hv3
  clear hq3 hb6 HB5 HV5 HK5
  obtain ⟨g1, g2, g3, f1, f2, f3, rfl, -⟩ := hv3.form
  have HB7 := hidIt (HB6.out.trans (Below.mono (bgrow w6 (.cells #[.slice g1 Q3.prems.length f1, .slice g2 Q3.rules.length f2, .slice g3 Q3.proms.length f3] 26)) HB6.out.size))
  have HV7 := hidIt (HV6.out.below (bgrow w6 (.cells #[.slice g1 Q3.prems.length f1, .slice g2 Q3.rules.length f2, .slice g3 Q3.proms.length f3] 26)))
  have HK7 := blk_kept2 HK6.out (bgrow w6 (.cells #[.slice g1 Q3.prems.length f1, .slice g2 Q3.rules.length f2, .slice g3 Q3.proms.length f3] 26))
  obtain ⟨k0, k1, k2⟩ := bcell3 HK6.out
  have lk := lt_of_block HK6.out
  clear hv3 HB6 HV6 HK6
  have hl2 : sampleB.rules.length = 2 := rfl
  go_wp2_with fail
  refine (HFI.out _ _ HV7.out).mono ?_
  rintro e w8 ⟨rfl, hb8⟩
  have HB8 := hidIt (HB7.out.trans (Below.mono hb8 HB7.out.size))
  clear hb8
  go_wp2_with fail
  go_ret
  exact ⟨rfl, HB8.out⟩
end Go.Proofs.YtmhloapjadhifaaGreatDoor

namespace Go.Proofs.YtmhloapjadhifaaGreatDoor
set_option linter.unusedVariables false
set_option linter.unusedSimpArgs false
open Go Go.RowKit

structure LimIn (w : World) (B Pb Pc Pd : Nat) (ps : List Pm) (rs : List Ru) (qs : List Pr) (pv rv qv : Value) : Prop where
  b : w.heap[Pb]? = some (.cells #[pv, .slice none 0 0, .slice none 0 0] 26 (0, 0))
  c : w.heap[Pc]? = some (.cells #[.slice none 0 0, rv, .slice none 0 0] 26 (0, 0))
  d : w.heap[Pd]? = some (.cells #[.slice none 0 0, .slice none 0 0, qv] 26 (0, 0))
  lb : Pb < Pc
  lc : Pc < Pd
  ld : Pd < B
  p : OwnPm w B pv ps
  r : OwnRu w B (fun _ => False) rv rs
  q : OwnPr w B qv qs
  pr : ∀ g, pv.ownBlock = some g → rv.ownBlock ≠ some g
  pq : ∀ g, pv.ownBlock = some g → qv.ownBlock ≠ some g
  rq : ∀ g, rv.ownBlock = some g → qv.ownBlock ≠ some g

section
variable {w w' : World} {B Pb Pc Pd : Nat} {ps : List Pm} {rs : List Ru} {qs : List Pr} {pv rv qv : Value}
theorem LimIn.go (h : LimIn w B Pb Pc Pd ps rs qs pv rv qv) (hb : Below w.heap.size w w') : LimIn w' B Pb Pc Pd ps rs qs pv rv qv := by
  have hk := fun k (hk : k < w.heap.size) => hb.block k hk
  exact ⟨blk_kept2 h.b hb, blk_kept2 h.c hb, blk_kept2 h.d hb, h.lb, h.lc, h.ld, owns_kept h.p fun g e => hk g (owns_blk h.p g e).2, h.r.kept (fun g e => hk g (h.r.blk g e).2) (fun k hS _ => hS.elim) hb.size (fun k hS _ => hS), owns_kept h.q fun g e => hk g (owns_blk h.q g e).2, h.pr, h.pq, h.rq⟩
theorem new_own {v v' : Value} (hbl : v'.ownBlock = v.ownBlock ∨ v'.ownBlock = some w.heap.size) : ∀ k, k < w.heap.size → v.ownBlock ≠ some k → v'.ownBlock ≠ some k := fun k hk hp e => by
  rcases hbl with e2 | e2
  · exact hp (by rw [← e2, e])
  · rw [e2] at e; injection e with e; omega
theorem LimIn.addP {pv' : Value} {p : Pm} (h : LimIn w B Pb Pc Pd ps rs qs pv rv qv) (h2 : w'.ownsRow B 64 5 pv' (ps.length + 1) (ps.flatMap encPm ++ encPm p)) (hg : w.grownBy w' pv.ownBlock) (hbl : pv'.ownBlock = pv.ownBlock ∨ pv'.ownBlock = some w.heap.size) :
    LimIn (w'.setCell ⟨Pb, 0, none⟩ pv') B Pb Pc Pd (ps ++ [p]) rs qs pv' rv qv := by
  have l1 := h.lb
  have l2 := h.lc
  have l3 := h.ld
  have hset : ∀ k, k ≠ Pb → (w'.setCell ⟨Pb, 0, none⟩ pv').heap[k]? = w'.heap[k]? := fun k hk => Below.heap_setCell w' ⟨Pb, 0, none⟩ pv' k hk
  have hnew := new_own (w := w) hbl
  have hold : ∀ k, k < w.heap.size → pv.ownBlock ≠ some k → w'.heap[k]? = w.heap[k]? := fun k hk hp => hg.block k hk (fun e => hp e.symm)
  have hbox : ∀ k, k < B → k < w.heap.size → w'.heap[k]? = w.heap[k]? := fun k hk hl => hold k hl (fun e => by have := (owns_blk h.p k e).1; omega)
  have hsame : ∀ k, B ≤ k → k < w.heap.size → pv.ownBlock ≠ some k → (w'.setCell ⟨Pb, 0, none⟩ pv').heap[k]? = w.heap[k]? := fun k hB hk hp => (hset k (by omega)).trans (hold k hk hp)
  refine ⟨setB pv' ((hbox Pb (by omega) (lt_of_block h.b)).trans h.b), (hset Pc (by omega)).trans ((hbox Pc (by omega) (lt_of_block h.c)).trans h.c), (hset Pd (by omega)).trans ((hbox Pd (by omega) (lt_of_block h.d)).trans h.d), l1, l2, l3, ?_, ?_, ?_, ?_, ?_, h.rq⟩
  · exact owns_kept (OwnPm.snoc h2) fun g e => hset g (by have := (owns_blk h2 g e).1; omega)
  · exact h.r.kept (fun g e => hsame g (h.r.blk g e).1 (h.r.blk g e).2 (fun e2 => h.pr g e2 e)) (fun k hS _ => hS.elim) (by rw [size_setCell]; exact hg.size) (fun k hS _ => hS)
  · exact owns_kept h.q fun g e => hsame g (owns_blk h.q g e).1 (owns_blk h.q g e).2 (fun e2 => h.pq g e2 e)
  · intro g e e2
    exact hnew g (h.r.blk g e2).2 (fun e3 => h.pr g e3 e2) e
  · intro g e e2
    exact hnew g (owns_blk h.q g e2).2 (fun e3 => h.pq g e3 e2) e
theorem LimIn.addQ {qv' : Value} {p : Pr} (h : LimIn w B Pb Pc Pd ps rs qs pv rv qv) (h2 : w'.ownsRow B 68 4 qv' (qs.length + 1) (qs.flatMap encPr ++ encPr p)) (hg : w.grownBy w' qv.ownBlock) (hbl : qv'.ownBlock = qv.ownBlock ∨ qv'.ownBlock = some w.heap.size) :
    LimIn (w'.setCell ⟨Pd, 2, none⟩ qv') B Pb Pc Pd ps rs (qs ++ [p]) pv rv qv' := by
  have l1 := h.lb
  have l2 := h.lc
  have l3 := h.ld
  have hset : ∀ k, k ≠ Pd → (w'.setCell ⟨Pd, 2, none⟩ qv').heap[k]? = w'.heap[k]? := fun k hk => Below.heap_setCell w' ⟨Pd, 2, none⟩ qv' k hk
  have hnew := new_own (w := w) hbl
  have hold : ∀ k, k < w.heap.size → qv.ownBlock ≠ some k → w'.heap[k]? = w.heap[k]? := fun k hk hp => hg.block k hk (fun e => hp e.symm)
  have hbox : ∀ k, k < B → k < w.heap.size → w'.heap[k]? = w.heap[k]? := fun k hk hl => hold k hl (fun e => by have := (owns_blk h.q k e).1; omega)
  have hsame : ∀ k, B ≤ k → k < w.heap.size → qv.ownBlock ≠ some k → (w'.setCell ⟨Pd, 2, none⟩ qv').heap[k]? = w.heap[k]? := fun k hB hk hp => (hset k (by omega)).trans (hold k hk hp)
  refine ⟨(hset Pb (by omega)).trans ((hbox Pb (by omega) (lt_of_block h.b)).trans h.b), (hset Pc (by omega)).trans ((hbox Pc (by omega) (lt_of_block h.c)).trans h.c), setB qv' ((hbox Pd (by omega) (lt_of_block h.d)).trans h.d), l1, l2, l3, ?_, ?_, ?_, h.pr, ?_, ?_⟩
  · exact owns_kept h.p fun g e => hsame g (owns_blk h.p g e).1 (owns_blk h.p g e).2 (h.pq g e)
  · exact h.r.kept (fun g e => hsame g (h.r.blk g e).1 (h.r.blk g e).2 (h.rq g e)) (fun k hS _ => hS.elim) (by rw [size_setCell]; exact hg.size) (fun k hS _ => hS)
  · exact owns_kept (OwnPr.snoc h2) fun g e => hset g (by have := (owns_blk h2 g e).1; omega)
  · intro g e
    exact hnew g (owns_blk h.p g e).2 (h.pq g e)
  · intro g e
    exact hnew g (h.r.blk g e).2 (h.rq g e)
theorem LimIn.addR {rv' : Value} {r : Ru} (h : LimIn w B Pb Pc Pd ps rs qs pv rv qv) {bs : List Value} (hl : bs.length = rs.length)
    (hf : ∀ i (h : i < rs.length) (h' : i < bs.length), BodyIn w (fun k => False ∧ rv.ownBlock ≠ some k) bs[i] rs[i].body)
    (h2 : w'.ownsRow B 66 6 rv' (rs.length + 1) (((rs.zip bs).flatMap fun x => encRu x.1 x.2) ++ encRu r (.slice none 0 0))) (hg : w.grownBy w' rv.ownBlock) (hbl : rv'.ownBlock = rv.ownBlock ∨ rv'.ownBlock = some w.heap.size) (hr : r.body = []) :
    LimIn (w'.setCell ⟨Pc, 1, none⟩ rv') B Pb Pc Pd ps (rs ++ [r]) qs pv rv' qv := by
  have l1 := h.lb
  have l2 := h.lc
  have l3 := h.ld
  have hset : ∀ k, k ≠ Pc → (w'.setCell ⟨Pc, 1, none⟩ rv').heap[k]? = w'.heap[k]? := fun k hk => Below.heap_setCell w' ⟨Pc, 1, none⟩ rv' k hk
  have hnew := new_own (w := w) hbl
  have hold : ∀ k, k < w.heap.size → rv.ownBlock ≠ some k → w'.heap[k]? = w.heap[k]? := fun k hk hp => hg.block k hk (fun e => hp e.symm)
  have hbox : ∀ k, k < B → k < w.heap.size → w'.heap[k]? = w.heap[k]? := fun k hk hl => hold k hl (fun e => by have := (h.r.blk k e).1; omega)
  have hsame : ∀ k, B ≤ k → k < w.heap.size → rv.ownBlock ≠ some k → (w'.setCell ⟨Pc, 1, none⟩ rv').heap[k]? = w.heap[k]? := fun k hB hk hp => (hset k (by omega)).trans (hold k hk hp)
  have hR := OwnRu.snoc hl hf h2 hg hbl (r := r) (.inl ⟨rfl, hr⟩)
  refine ⟨(hset Pb (by omega)).trans ((hbox Pb (by omega) (lt_of_block h.b)).trans h.b), setB rv' ((hbox Pc (by omega) (lt_of_block h.c)).trans h.c), (hset Pd (by omega)).trans ((hbox Pd (by omega) (lt_of_block h.d)).trans h.d), l1, l2, l3, ?_, ?_, ?_, ?_, h.pq, ?_⟩
  · exact owns_kept h.p fun g e => hsame g (owns_blk h.p g e).1 (owns_blk h.p g e).2 (h.pr g e)
  · exact hR.kept (fun g e => hset g (by have := (hR.blk g e).1; omega)) (fun k hS _ => hS.elim) (by rw [size_setCell]; exact Nat.le_refl _) (fun k hS _ => hS)
  · exact owns_kept h.q fun g e => hsame g (owns_blk h.q g e).1 (owns_blk h.q g e).2 (fun e2 => h.rq g e2 e)
  · intro g e
    exact hnew g (owns_blk h.p g e).2 (h.pr g e)
  · intro g e e2
    exact hnew g (owns_blk h.q g e2).2 (fun e3 => h.rq g e3 e2) e
end

/-- append of one element, in the order of the text, with the block of what it hands back. -/
theorem wpList_append_sb {w : World} {ops : Array Oper} {rest : List Oper} {o : Oper} {a : Act} {Q : Exit → Act → World → Prop} (hgd : o.guard = none) (s x : Operand) {T e : TypeId} {k by' : Nat} (hE : ElemOf T e k by')
    (ho : o.op = .call { callee := .builtin .append, args := #[s, x], argTypes := #[T, T] }) (B : Nat) (v : Value) (n : Nat) (xs : List Value) (hs : a.eval s = v) (hown : w.ownsRow B e k v n xs)
    (m c1 : Nat) (hx : a.eval x = .slice (some ⟨m, 0, none⟩) 1 c1) (cs : Array Value) (tm : TypeId) (hm : w.heap[m]? = some (.cells cs tm (0, 0))) (hcs : cs.size = k) (hone : ∀ u ∈ cs.toList, u.oneCell' = true) (hlen : n ≤ 1000000) (hB : B ≤ w.heap.size)
    (h : ∀ g cap w', w'.ownsRow B e k (.slice (some ⟨g, 0, none⟩) (n + 1) cap) (n + 1) (xs ++ cs.toList) → w.grownBy w' v.ownBlock → ((Value.slice (some ⟨g, 0, none⟩) (n + 1) cap).ownBlock = v.ownBlock ∨ (Value.slice (some ⟨g, 0, none⟩) (n + 1) cap).ownBlock = some w.heap.size) → wpList Tryz.prog ops Q rest (a.put o.dst (.slice (some ⟨g, 0, none⟩) (n + 1) cap)) w') : wpList Tryz.prog ops Q (o :: rest) a w :=
  wpList_append_one hgd s x hE ho B v n xs hs hown m c1 hx cs tm hm hcs hone hlen hB fun v' w' h1 h2 h3 => by
    obtain ⟨g, cap, rfl, hg⟩ := owns_slice h1
    exact h g cap w' h1 h2 h3

/-- The things of the round i. -/
def xL (i : Nat) : Lt := ⟨decide (i % 2 = 1), ruleNm (i / 2)⟩
def pL (i : Nat) : Pm := ⟨xL i, 3, 0, ⟨#[]⟩⟩
def nL (i : Nat) : ByteArray := (⟨#[120]⟩ ++ ruleNm (i % 26)) ++ ⟨#[UInt8.ofNat (97 + i / 26)]⟩
def rL (i : Nat) : Ru := ⟨nL i, false, 0, [], xL i⟩
def qL (i : Nat) : Pr := ⟨⟨#[114]⟩, 0, xL i⟩
def rD : Ru := ⟨⟨#[114]⟩, false, 0, [], ⟨false, ⟨#[112]⟩⟩⟩
def mkP (n : Nat) : Bs := ⟨(List.range n).map pL, [], []⟩
def mkR (n : Nat) : Bs := ⟨[], (List.range n).map rL, []⟩
def mkQ (n : Nat) : Bs := ⟨[], [rD], (List.range n).map qL⟩
theorem lim_all : ∀ n, n < 40 → (baseE (mkP n) == 0) = decide (n ≤ 16) ∧ (baseE (mkR n) == 0) = decide (n ≤ 24) ∧ (baseE (mkQ n) == 0) = decide (n ≤ 8) := by
  intro n hn
  rw [baseE5_eq, baseE5_eq, baseE5_eq]
  have h : ∀ m : Fin 40, (baseE5 (mkP m.val) == 0) = decide (m.val ≤ 16) ∧ (baseE5 (mkR m.val) == 0) = decide (m.val ≤ 24) ∧ (baseE5 (mkQ m.val) == 0) = decide (m.val ≤ 8) := by decide +kernel
  exact h ⟨n, hn⟩
theorem range_snoc {α : Type} (f : Nat → α) (k : Nat) : (List.range (k + 1)).map f = (List.range k).map f ++ [f k] := by rw [List.range_succ, List.map_append]; rfl
end Go.Proofs.YtmhloapjadhifaaGreatDoor

namespace Go.Proofs.YtmhloapjadhifaaGreatDoor
set_option linter.unusedVariables false
set_option linter.unusedSimpArgs false
open Go.RowKit

theorem okUpto_first (s : ByteArray) (h : 0 < s.size) (hf : fitsB (s[0].toNat : Int) 0 = false) : okUpto s.data.toList s.size = false := by
  refine okUpto_false _ 1 _ (by omega) ?_
  show (okUpto s.data.toList 0 && fitsB ((s.data.toList.getD 0 0).toNat : Int) ((0 : Nat) : Int)) = false
  rw [getD_at s 0 h]
  simpa [okUpto] using hf

set_option maxHeartbeats 1000000 in
theorem rValidName_any (s : ByteArray) (w : World) (hs : s.size ≤ maxLen) :
    Calls Tryz.prog 96 #[.string s] w fun e w' => e = .returned (.bool (vn s)) ∧ w = w' := by
  unfold maxLen at hs
  by_cases h0 : s.size = 0
  · have HV : Hid (vn s = false) := by show vn s = _; simp [vn, h0]
    have h0' : (s.size : Int) < 1 := by omega
    go_enter Tryz.func96, Tryz.ntmps96
    go_wp2
    go_ret
    exact ⟨ret_bool HV.out.symm, rfl⟩
  by_cases h1 : 12 < s.size
  · have HV : Hid (vn s = false) := by show vn s = _; simp [vn]; omega
    have h1' : (12 : Int) < s.size := by omega
    go_enter Tryz.func96, Tryz.ntmps96
    go_wp2
    go_ret
    exact ⟨ret_bool HV.out.symm, rfl⟩
  have hpos : 0 < s.size := by omega
  have hle : s.size ≤ 12 := by omega
  have HV : Hid (vn s = okUpto s.data.toList s.size) := by show vn s = _; simp [vn, hpos, hle]
  have hb : (s[0].toNat : Int) ≤ 255 := by have := s[0].toNat_lt; omega
  by_cases ha : (s[0].toNat : Int) < 97
  · have HF : Hid (vn s = false) := by
      show vn s = _
      rw [HV.out]; exact okUpto_first s hpos (by simp [fitsB]; omega)
    go_enter Tryz.func96, Tryz.ntmps96
    go_wp2
    go_ret
    exact ⟨ret_bool HF.out.symm, rfl⟩
  by_cases hz : (122 : Int) < (s[0].toNat : Int)
  · have HF : Hid (vn s = false) := by
      show vn s = _
      rw [HV.out]; exact okUpto_first s hpos (by simp [fitsB]; omega)
    go_enter Tryz.func96, Tryz.ntmps96
    go_wp2
    go_ret
    exact ⟨ret_bool HF.out.symm, rfl⟩
  have H0 : Hid (97 ≤ (s[0].toNat : Int) ∧ (s[0].toNat : Int) ≤ 122) := ⟨by omega, by omega⟩
  go_enter Tryz.func96, Tryz.ntmps96
  go_wp2
  go_loop [3] (fun i => ∃ k : Nat, k ≤ s.size ∧ i = .int .i64 k ∧ Hid (okUpto s.data.toList k = true)) (fun i => s.size - (intOf i).toNat)
  case atStart => exact ⟨0, Nat.zero_le _, rfl, rfl⟩
  case round =>
    clear ha hz hb
    obtain ⟨k, hk, rfl, hok⟩ := hrel
    by_cases hlt : k < s.size
    · have hbk : (s[k].toNat : Int) ≤ 255 := by have := s[k].toNat_lt; omega
      have hk0 : Hid (k = 0 → 97 ≤ (s[k].toNat : Int) ∧ (s[k].toNat : Int) ≤ 122) := fun e => by subst e; exact H0.out
      have hstep : Hid (okUpto s.data.toList (k + 1) = fitsB (s[k].toNat : Int) (k : Int)) := by
        show _ = _
        rw [okUpto, hok.out, getD_at s k hlt, Bool.true_and]
      obtain ⟨c, hc⟩ : ∃ c : Int, (s[k].toNat : Int) = c := ⟨_, rfl⟩
      have HC := hidIt hc
      have good : Hid (fitsB c (k : Int) = true → okUpto s.data.toList (k + 1) = true) := fun h => by rw [hstep.out, HC.out]; exact h
      have bad : Hid (fitsB c (k : Int) = false → vn s = false) := fun h => by
        rw [HV.out]; exact okUpto_false _ (k + 1) _ (by omega) (by rw [hstep.out, HC.out]; exact h)
      rw [hc] at hbk hk0
      have hc0 : 0 ≤ c := by omega
      clear hc
      by_cases a1 : (s[k].toNat : Int) < 97
      · by_cases a2 : (s[k].toNat : Int) < 48
        · go_wp2
          go_ret
          exact ⟨ret_bool (bad.out (by have := HC.out; simp [fitsB]; omega)).symm, rfl⟩
        · by_cases a3 : (57 : Int) < (s[k].toNat : Int)
          · by_cases a4 : (s[k].toNat : Int) = 95
            · have a4' : ((s[k].toNat : Int) != 95) = false := by rw [a4]; rfl
              have A4 := hidIt a4
              clear a4
              go_wp2
              go_round
              case rel => exact ⟨k + 1, by omega, by go_num, good.out (by have := HC.out; have := A4.out; have := hk0.out; simp [fitsB]; omega)⟩
              case measure => simp [intOf]; omega
            · have a4' : ((s[k].toNat : Int) != 95) = true := by simp only [bne_iff_ne, ne_eq]; exact a4
              go_wp2
              go_ret
              exact ⟨ret_bool (bad.out (by have := HC.out; simp [fitsB]; omega)).symm, rfl⟩
          · go_wp2
            go_round
            case rel => exact ⟨k + 1, by omega, by go_num, good.out (by have := HC.out; have := hk0.out; simp [fitsB]; omega)⟩
            case measure => simp [intOf]; omega
      · by_cases a2 : (122 : Int) < (s[k].toNat : Int)
        · have a4' : ((s[k].toNat : Int) != 95) = true := by simp only [bne_iff_ne, ne_eq]; omega
          go_wp2
          go_ret
          exact ⟨ret_bool (bad.out (by have := HC.out; simp [fitsB]; omega)).symm, rfl⟩
        · go_wp2
          go_round
          case rel => exact ⟨k + 1, by omega, by go_num, good.out (by have := HC.out; simp [fitsB]; omega)⟩
          case measure => simp [intOf]; omega
    · go_wp2
      go_ret
      exact ⟨ret_bool (by rw [HV.out]; obtain rfl : k = s.size := by omega
                          exact hok.out.symm), rfl⟩
end Go.Proofs.YtmhloapjadhifaaGreatDoor

namespace Go.Proofs.YtmhloapjadhifaaGreatDoor.Own
set_option linter.unusedVariables false
set_option linter.unusedSimpArgs false
open Go

/-- A relation; is the value's block one that the operation makes? -/
structure RelO where
  rel : Value → World → Prop
  own : Bool
/-- The block of a pointer or a slice. -/
def vblk : Value → Option Nat
  | .pointer (some a) => some a.block
  | .slice (some a) _ _ => some a.block
  | _ => none
def newV (v : Value) (w w' : World) : Prop := ∀ b, vblk v = some b → w.heap.size ≤ b ∧ b < w'.heap.size
def inV (v : Value) (w : World) : Prop := ∀ b, vblk v = some b → b < w.heap.size
def apartV (x y : Value) : Prop := ∀ b, vblk x = some b → vblk y ≠ some b
def relR (r : RelO) (w : World) (u : Value) (w' : World) : Prop := r.rel u w' ∧ (r.own = true → newV u w w')

section
variable (P : Program) (ops : Array Oper) (C : World → Prop) (G : World → World → Prop) (R : Tmp → Option RelO)

/-- What is known of the frame's temporaries in the set F, in the world w. -/
def Knows (F : Tmp → Prop) (a : Act) (w : World) : Prop := (∀ s, F s → ∀ r, R s = some r → r.rel (a.eval (.tmp s)) w ∧ (r.own = true → inV (a.eval (.tmp s)) w)) ∧
  ∀ s t, F s → F t → s ≠ t → ∀ r q, R s = some r → R t = some q → r.own = true → q.own = true → apartV (a.eval (.tmp s)) (a.eval (.tmp t))
/-- What the operation may lean on. -/
def Leans (F : Tmp → Prop) (o : Oper) (a : Act) (w : World) : Prop := ∀ s, F s → s ∈ o.looksAt ops → ∀ r, R s = some r → r.rel (a.eval (.tmp s)) w
def KnownTo (F : Tmp → Prop) (a : Act) : Prop := ∃ w, C w ∧ Knows R F a w
def more (F : Tmp → Prop) (t : Tmp) : Tmp → Prop := fun s => s = t ∨ F s

def relUpon (r : RelO) (w : World) : Result Next → Prop
  | .ok (.value u) w' => C w' ∧ G w w' ∧ relR r w u w'
  | .ok .skip w' => C w' ∧ G w w' ∧ relR r w undef w'
  | .ok (.enter f args) w' => Calls P f args w' fun e w'' => ∃ u, e = .returned u ∧ C w'' ∧ G w w'' ∧ relR r w u w''
  | _ => False
def plainUpon (x : Value) (w : World) : Result Next → Prop
  | .ok (.value u) w' => w' = w ∧ u = x
  | .ok .skip w' => w' = w ∧ undef = x
  | _ => False

def opRel (r : RelO) (F : Tmp → Prop) (o : Oper) (a : Act) : Prop := ∀ w, C w → Leans ops R F o a w → relUpon P C G r w ((execOp a.eval o).run P w)
def opPlain (x : Value) (F : Tmp → Prop) (o : Oper) (a : Act) : Prop := ∀ w, C w → Leans ops R F o a w → plainUpon x w ((execOp a.eval o).run P w)

/-- One operation that is carried out; what follows is asked of K. -/
def opDo (o : Oper) (K : (Tmp → Prop) → Act → Prop) (F : Tmp → Prop) (a : Act) : Prop :=
  match o.dst with
  | none => opRel P ops C G R ⟨fun _ _ => True, false⟩ F o a ∧ K F a
  | some t => match R t with
    | none => ∃ x, opPlain P ops C R x F o a ∧ K F (a.put (some t) x)
    | some r => t < a.tmps.size ∧ opRel P ops C G R r F o a ∧ ∀ v, KnownTo C R (more F t) (a.put (some t) v) → K (more F t) (a.put (some t) v)
def opAt (o : Oper) (K : (Tmp → Prop) → Act → Prop) (F : Tmp → Prop) (a : Act) : Prop :=
  (Region.wanted o (yielded ops a.tmps) = true → opDo P ops C G R o K F a) ∧ (Region.wanted o (yielded ops a.tmps) = false → K F (a.put o.dst undef))

def anyR (md : Region.Mode) (E : (Tmp → Prop) → Act → Prop) : Nat → Array Bool → (Tmp → Prop) → Act → Prop
  | 0, listed, F, a => Region.ready md ops listed = [] ∧ E F a
  | n + 1, listed, F, a => (Region.ready md ops listed = [] → E F a) ∧ ∀ i ∈ Region.ready md ops listed, ∀ o, ops[i]? = some o → opAt P ops C G R o (anyR md E n (listed.setIfInBounds i true)) F a

/-- The walk in the order of the text. -/
def walkR (E : (Tmp → Prop) → Act → Prop) : List Oper → (Tmp → Prop) → Act → Prop
  | [], F, a => E F a
  | o :: rest, F, a => opAt P ops C G R o (walkR E rest) F a
end

section
variable {P : Program} {ops : Array Oper} {C : World → Prop} {G : World → World → Prop} {R : Tmp → Option RelO} {md : Region.Mode} {E : (Tmp → Prop) → Act → Prop}

def Stable (C : World → Prop) (G : World → World → Prop) (R : Tmp → Option RelO) : Prop := (∀ w w', G w w' → w.heap.size ≤ w'.heap.size) ∧ ∀ s r, R s = some r → ∀ v w w', C w → C w' → G w w' → r.rel v w → r.rel v w'

theorem put_size (a : Act) (d : Option Tmp) (v : Value) : (a.put d v).tmps.size = a.tmps.size := by cases d <;> simp [Act.put]
theorem eval_put_self (a : Act) (t : Tmp) (v : Value) (h : t < a.tmps.size) : (a.put (some t) v).eval (.tmp t) = v := by simp [Act.eval, Act.put, h]
theorem eval_put_ne (a : Act) {t s : Tmp} (v : Value) (h : s ≠ t) : (a.put (some t) v).eval (.tmp s) = a.eval (.tmp s) :=
  Act.eval_put fun d hd => by injection hd with hd; subst hd; intro e; injection e with e; exact h e

theorem Knows.put {F : Tmp → Prop} {a : Act} {w : World} {d : Option Tmp} {v : Value} (hf : ∀ t, d = some t → ¬ F t) : Knows R F (a.put d v) w ↔ Knows R F a w := by
  have e : ∀ s, F s → (a.put d v).eval (.tmp s) = a.eval (.tmp s) := fun s hs => Act.eval_put (fun t ht e => by injection e with e; subst e; exact hf _ ht hs)
  refine ⟨fun h => ⟨fun s hs r hr => ?_, fun s t hs ht hne r q hr hq ho hp => ?_⟩, fun h => ⟨fun s hs r hr => ?_, fun s t hs ht hne r q hr hq ho hp => ?_⟩⟩
  · have := h.1 s hs r hr
    rwa [e s hs] at this
  · have := h.2 s t hs ht hne r q hr hq ho hp
    rwa [e s hs, e t ht] at this
  · rw [e s hs]
    exact h.1 s hs r hr
  · rw [e s hs, e t ht]
    exact h.2 s t hs ht hne r q hr hq ho hp
theorem KnownTo.put {F : Tmp → Prop} {a : Act} {d : Option Tmp} {v : Value} (hf : ∀ t, d = some t → ¬ F t) : KnownTo C R F (a.put d v) ↔ KnownTo C R F a :=
  ⟨fun ⟨w, h, k⟩ => ⟨w, h, (Knows.put hf).1 k⟩, fun ⟨w, h, k⟩ => ⟨w, h, (Knows.put hf).2 k⟩⟩
theorem Knows.less {F : Tmp → Prop} {t : Tmp} {a : Act} {w : World} (h : Knows R (more F t) a w) : Knows R F a w := ⟨fun s hs => h.1 s (.inr hs), fun s t hs ht => h.2 s t (.inr hs) (.inr ht)⟩
theorem Knows.leans {F : Tmp → Prop} {o : Oper} {a : Act} {w : World} (h : Knows R F a w) : Leans ops R F o a w := fun s hs _ r hr => (h.1 s hs r hr).1
theorem Knows.made (hR : Stable C G R) {F : Tmp → Prop} {a : Act} {w w' : World} {t : Tmp} {v : Value} {r : RelO} (h : Knows R F a w) (hC : C w) (hC' : C w') (hG : G w w') (hf : ¬ F t) (ht : t < a.tmps.size) (hr : R t = some r) (hv : relR r w v w') :
    Knows R (more F t) (a.put (some t) v) w' := by
  have hne : ∀ s, F s → s ≠ t := fun s hs e => hf (e ▸ hs)
  have e : ∀ s, F s → (a.put (some t) v).eval (.tmp s) = a.eval (.tmp s) := fun s hs => eval_put_ne _ _ (hne s hs)
  have e0 := eval_put_self a t v ht
  have old : ∀ s, F s → ∀ q, R s = some q → q.own = true → r.own = true → ∀ b, vblk (a.eval (.tmp s)) = some b → vblk v ≠ some b := fun s hs q hq hp ho b hb hb' => by
    have h1 := (h.1 s hs q hq).2 hp b hb
    have h2 := (hv.2 ho b hb').1
    omega
  refine ⟨fun s hs r' hr' => ?_, fun s u hs hu hsu r1 r2 h1 h2 o1 o2 => ?_⟩
  · rcases hs with rfl | hs
    · rw [e0]
      rw [hr] at hr'
      injection hr' with hr'
      subst hr'
      exact ⟨hv.1, fun ho b hb => (hv.2 ho b hb).2⟩
    · rw [e s hs]
      have := h.1 s hs r' hr'
      exact ⟨hR.2 s r' hr' _ w w' hC hC' hG this.1, fun ho b hb => Nat.lt_of_lt_of_le (this.2 ho b hb) (hR.1 w w' hG)⟩
  · rcases hs with rfl | hs <;> rcases hu with rfl | hu
    · exact absurd rfl hsu
    · rw [e0, e u hu]
      rw [hr] at h1
      injection h1 with h1
      subst h1
      exact fun b hb hb' => old u hu r2 h2 o2 o1 b hb' hb
    · rw [e0, e s hs]
      rw [hr] at h2
      injection h2 with h2
      subst h2
      exact fun b hb hb' => old s hs r1 h1 o1 o2 b hb hb'
    · rw [e s hs, e u hu]
      exact h.2 s u hs hu hsu r1 r2 h1 h2 o1 o2
theorem Knows.grown (hR : Stable C G R) {F : Tmp → Prop} {a : Act} {w w' : World} (h : Knows R F a w) (hC : C w) (hC' : C w') (hG : G w w') : Knows R F a w' :=
  ⟨fun s hs r hr => ⟨hR.2 s r hr _ w w' hC hC' hG (h.1 s hs r hr).1, fun ho b hb => Nat.lt_of_lt_of_le ((h.1 s hs r hr).2 ho b hb) (hR.1 w w' hG)⟩, h.2⟩

/-- Some outcome of an operation. -/
theorem rel_some {r : RelO} {w : World} {x : Result Next} (h : relUpon P C G r w x) : ∃ u w', C w' ∧ G w w' ∧ relR r w u w' := by
  unfold relUpon at h
  split at h
  · exact ⟨_, _, h⟩
  · exact ⟨_, _, h⟩
  · obtain ⟨e, w', fr, ⟨u, he, hu⟩, -⟩ := h []
    exact ⟨u, w', hu⟩
  · exact h.elim

theorem plain_same {x y : Value} {w : World} {r : Result Next} (h : plainUpon x w r) (h' : plainUpon y w r) : x = y := by
  unfold plainUpon at h h'
  split at h
  · exact h.2.symm.trans h'.2
  · exact h.2.symm.trans h'.2
  · exact h.elim

/-- From every world of the class in which what is known holds. -/
theorem wpAny_of_anyR (hR : Stable C G R) {Q : Exit → Act → World → Prop} (hE : ∀ F a w, C w → Knows R F a w → E F a → Q .normal a w) (hD : ∀ (k k' : Nat) (o o' : Oper) (t : Tmp), ops[k]? = some o → ops[k']? = some o' → o.dst = some t → o'.dst = some t → k = k') :
    ∀ (n : Nat) (listed : Array Bool) (F : Tmp → Prop) (a : Act) (w : World), (∀ (k : Nat) (o : Oper) (t : Tmp), ops[k]? = some o → listed.getD k true = false → o.dst = some t → ¬ F t) → C w → Knows R F a w → anyR P ops C G R md E n listed F a → wpAny P md ops Q n listed a w
  | 0, _, F, a, w, _, hC, hK, h => ⟨h.1, hE F a w hC hK h.2⟩
  | n + 1, listed, F, a, w, hf, hC, hK, h => by
    refine ⟨fun h0 => hE F a w hC hK (h.1 h0), fun i hi => ?_⟩
    obtain ⟨hun, o, ho, -⟩ := mem_ready.1 hi
    obtain ⟨h1, h2⟩ := h.2 i hi o ho
    have hfo := hf i o
    have hf' : ∀ (k : Nat) (o' : Oper) (t : Tmp), ops[k]? = some o' → (listed.setIfInBounds i true).getD k true = false → o'.dst = some t → ¬ F t := fun k o' t hk hl ht => by
      by_cases hki : i = k
      · subst hki; exact hf i o' t hk hun ht
      · rw [getD_set_ne true hki] at hl; exact hf k o' t hk hl ht
    have hsame : ∀ d v, o.dst = d → anyR P ops C G R md E n (listed.setIfInBounds i true) F (a.put d v) → wpAny P md ops Q n (listed.setIfInBounds i true) (a.put d v) w := fun d v hd hk =>
      wpAny_of_anyR hR hE hD n _ F _ w hf' hC ((Knows.put fun t ht => hfo t ho hun (hd.trans ht)).2 hK) hk
    unfold wpOp
    simp only [ho]
    cases hw : Region.wanted o (yielded ops a.tmps)
    · simp only [Bool.false_eq_true, if_false]
      exact hsame _ _ rfl (h2 hw)
    · simp only [if_true]
      refine .inl ?_
      have h3 := h1 hw
      unfold opDo at h3
      unfold Oper.wp
      cases hd : o.dst with
      | none =>
        simp only [hd] at h3
        obtain ⟨h4, h5⟩ := h3
        have h6 := h4 w hC hK.leans
        generalize (execOp a.eval o).run P w = x at h6 ⊢
        have fin : ∀ w', C w' → G w w' → ∀ v, wpAny P md ops Q n (listed.setIfInBounds i true) (a.put o.dst v) w' := fun w' hC' hG v => by
          rw [hd]
          exact wpAny_of_anyR hR hE hD n _ F _ w' hf' hC' (hK.grown hR hC hC' hG) h5
        unfold relUpon at h6
        split at h6
        · exact fin _ h6.1 h6.2.1 _
        · exact fin _ h6.1 h6.2.1 _
        · exact h6.mono fun e w'' ⟨u, he, hC', hG, _⟩ => by subst he; exact fin _ hC' hG _
        · exact h6.elim
      | some t =>
        simp only [hd] at h3
        cases hr : R t with
        | none =>
          simp only [hr] at h3
          obtain ⟨x, h4, h5⟩ := h3
          have h6 := h4 w hC hK.leans
          generalize (execOp a.eval o).run P w = y at h6 ⊢
          have fin := hsame (some t) x hd h5
          unfold plainUpon at h6
          split at h6
          · obtain ⟨rfl, rfl⟩ := h6
            show wpAny P md ops Q n _ (a.put o.dst _) _
            rw [hd]; exact fin
          · obtain ⟨rfl, rfl⟩ := h6
            show wpAny P md ops Q n _ (a.put o.dst _) _
            rw [hd]; exact fin
          · exact h6.elim
        | some r =>
          simp only [hr] at h3
          obtain ⟨hlt, h4, h5⟩ := h3
          have h6 := h4 w hC hK.leans
          generalize (execOp a.eval o).run P w = y at h6 ⊢
          have fin : ∀ w' v, C w' → G w w' → relR r w v w' → wpAny P md ops Q n (listed.setIfInBounds i true) (a.put o.dst v) w' := fun w' v hC' hG hv => by
            have hk := hK.made hR hC hC' hG (hfo t ho hun hd) hlt hr hv
            rw [hd]
            refine wpAny_of_anyR hR hE hD n _ (more F t) _ w' (fun k o' t' hk' hl ht' => ?_) hC' hk (h5 v ⟨w', hC', hk⟩)
            rintro (rfl | hF)
            · obtain rfl : k = i := hD k i o' o _ hk' ho ht' hd
              have : k < listed.size := by
                rcases Nat.lt_or_ge k listed.size with h' | h'
                · exact h'
                · simp [Array.getElem?_eq_none h'] at hun
              simp [this] at hl
            · exact hf' k o' t' hk' hl ht' hF
          unfold relUpon at h6
          split at h6
          · exact fin _ _ h6.1 h6.2.1 h6.2.2
          · exact fin _ _ h6.1 h6.2.1 h6.2.2
          · exact h6.mono fun e w'' ⟨u, he, hC', hG, hv⟩ => by subst he; exact fin _ _ hC' hG hv
          · exact h6.elim

theorem Leans.put {F : Tmp → Prop} {o : Oper} {a : Act} {w : World} {d : Option Tmp} {v : Value} (h : ∀ t, d = some t → t ∉ o.looksAt ops) : Leans ops R F o (a.put d v) w ↔ Leans ops R F o a w := by
  refine ⟨fun h1 s hs hl r hr => ?_, fun h1 s hs hl r hr => ?_⟩
  · have := h1 s hs hl r hr
    rwa [Act.eval_put (fun t ht e => by injection e with e; subst e; exact h _ ht hl)] at this
  · rw [Act.eval_put (fun t ht e => by injection e with e; subst e; exact h _ ht hl)]
    exact h1 s hs hl r hr
theorem Leans.more_iff {F : Tmp → Prop} {o : Oper} {a : Act} {w : World} {t : Tmp} (h : t ∉ o.looksAt ops) : Leans ops R (more F t) o a w ↔ Leans ops R F o a w :=
  ⟨fun h1 s hs => h1 s (.inr hs), fun h1 s hs hl => by
    rcases hs with rfl | hs
    · exact absurd hl h
    · exact h1 s hs hl⟩

variable (hsel : ∀ (j : Nat) (o : Oper) cs b, ops[j]? = some o → o.op ≠ .select cs b)

theorem opRel_put {o : Oper} {r : RelO} {F : Tmp → Prop} {a : Act} {d : Option Tmp} {v : Value} (hs : ∀ cs b, o.op ≠ .select cs b) (h : ∀ t, d = some t → t ∉ o.looksAt ops) : opRel P ops C G R r F o (a.put d v) ↔ opRel P ops C G R r F o a := by
  unfold opRel
  rw [execOp_put (ops := ops) o hs a d v h]
  exact forall_congr' fun w => forall_congr' fun _ => by rw [Leans.put h]
theorem opRel_more {o : Oper} {r : RelO} {F : Tmp → Prop} {a : Act} {t : Tmp} (h : t ∉ o.looksAt ops) : opRel P ops C G R r (more F t) o a ↔ opRel P ops C G R r F o a := by
  unfold opRel
  exact forall_congr' fun w => forall_congr' fun _ => by rw [Leans.more_iff h]
theorem opPlain_put {o : Oper} {x : Value} {F : Tmp → Prop} {a : Act} {d : Option Tmp} {v : Value} (hs : ∀ cs b, o.op ≠ .select cs b) (h : ∀ t, d = some t → t ∉ o.looksAt ops) : opPlain P ops C R x F o (a.put d v) ↔ opPlain P ops C R x F o a := by
  unfold opPlain
  rw [execOp_put (ops := ops) o hs a d v h]
  exact forall_congr' fun w => forall_congr' fun _ => by rw [Leans.put h]
theorem opPlain_more {o : Oper} {x : Value} {F : Tmp → Prop} {a : Act} {t : Tmp} (h : t ∉ o.looksAt ops) : opPlain P ops C R x (more F t) o a ↔ opPlain P ops C R x F o a := by
  unfold opPlain
  exact forall_congr' fun w => forall_congr' fun _ => by rw [Leans.more_iff h]

theorem more_comm (F : Tmp → Prop) (s t : Tmp) : more (more F s) t = more (more F t) s := by
  funext x
  exact propext ⟨fun h => by rcases h with h | h | h <;> simp [more, h], fun h => by rcases h with h | h | h <;> simp [more, h]⟩

theorem not_more {F : Tmp → Prop} {s t : Tmp} (h : ¬ F s) (hne : s ≠ t) : ¬ more F t s := fun hm => by
  rcases hm with rfl | hm
  · exact hne rfl
  · exact h hm
/-- How an operation goes: by one value (some x), or by its relation (none). -/
def Ev (P : Program) (ops : Array Oper) (C : World → Prop) (G : World → World → Prop) (R : Tmp → Option RelO) (o : Oper) (F : Tmp → Prop) (a : Act) : Option Value → Prop
  | some x => (Region.wanted o (yielded ops a.tmps) = false ∧ x = undef) ∨ (Region.wanted o (yielded ops a.tmps) = true ∧ ((o.dst = none ∧ opRel P ops C G R ⟨fun _ _ => True, false⟩ F o a ∧ x = undef) ∨ ∃ t, o.dst = some t ∧ R t = none ∧ opPlain P ops C R x F o a))
  | none => Region.wanted o (yielded ops a.tmps) = true ∧ ∃ t r, o.dst = some t ∧ R t = some r ∧ t < a.tmps.size ∧ opRel P ops C G R r F o a

theorem opAt_iff {o : Oper} {K : (Tmp → Prop) → Act → Prop} {F : Tmp → Prop} {a : Act} : opAt P ops C G R o K F a ↔
    (∃ x, Ev P ops C G R o F a (some x) ∧ K F (a.put o.dst x)) ∨ (Ev P ops C G R o F a none ∧ ∀ t, o.dst = some t → ∀ v, KnownTo C R (more F t) (a.put (some t) v) → K (more F t) (a.put (some t) v)) := by
  unfold opAt Ev
  cases hw : Region.wanted o (yielded ops a.tmps)
  · constructor
    · rintro ⟨-, h⟩
      exact .inl ⟨undef, .inl ⟨rfl, rfl⟩, h rfl⟩
    · rintro (⟨x, (⟨-, rfl⟩ | ⟨h, -⟩), hk⟩ | ⟨⟨h, -⟩, -⟩)
      · exact ⟨fun h => (by cases h), fun _ => hk⟩
      · cases h
      · cases h
  · unfold opDo
    cases hd : o.dst with
    | none =>
      constructor
      · rintro ⟨h, -⟩
        obtain ⟨h1, h2⟩ := h (by trivial)
        exact .inl ⟨undef, .inr ⟨by trivial, .inl ⟨rfl, h1, rfl⟩⟩, h2⟩
      · rintro (⟨x, (⟨h, -⟩ | ⟨-, (⟨-, h1, -⟩ | ⟨t, h, -⟩)⟩), hk⟩ | ⟨⟨-, t, r, h, -⟩, -⟩)
        · cases h
        · exact ⟨fun _ => ⟨h1, hk⟩, fun h => by cases h⟩
        · cases h
        · cases h
    | some t =>
      cases hr : R t with
      | none =>
        simp only [hr]
        constructor
        · rintro ⟨h, -⟩
          obtain ⟨x, h1, h2⟩ := h (by trivial)
          exact .inl ⟨x, .inr ⟨by trivial, .inr ⟨t, rfl, hr, h1⟩⟩, h2⟩
        · rintro (⟨x, (⟨h, -⟩ | ⟨-, (⟨h, -⟩ | ⟨t', h, hr', h1⟩)⟩), hk⟩ | ⟨⟨-, t', r, h, hr', -⟩, -⟩)
          · cases h
          · cases h
          · exact ⟨fun _ => ⟨x, h1, hk⟩, fun h => by cases h⟩
          · injection h with h
            subst h
            rw [hr] at hr'
            cases hr'
      | some r =>
        simp only [hr]
        constructor
        · rintro ⟨h, -⟩
          obtain ⟨h1, h2, h3⟩ := h (by trivial)
          refine .inr ⟨⟨by trivial, t, r, rfl, hr, h1, h2⟩, fun t' ht' => ?_⟩
          injection ht' with ht'
          subst ht'
          exact h3
        · rintro (⟨x, (⟨h, -⟩ | ⟨-, (⟨h, -⟩ | ⟨t', h, hr', h1⟩)⟩), hk⟩ | ⟨⟨-, t', r', h, hr', h1, h2⟩, h3⟩)
          · cases h
          · cases h
          · injection h with h
            subst h
            rw [hr] at hr'
            cases hr'
          · injection h with h
            subst h
            rw [hr] at hr'
            injection hr' with hr'
            subst hr'
            exact ⟨fun _ => ⟨h1, h2, h3 _ rfl⟩, fun h => by cases h⟩

theorem Ev.put {o : Oper} {F : Tmp → Prop} {a : Act} {d : Option Tmp} {v : Value} {y : Option Value} (hs : ∀ cs b, o.op ≠ .select cs b) (h : ∀ t, d = some t → t ∉ o.looksAt ops) : Ev P ops C G R o F (a.put d v) y ↔ Ev P ops C G R o F a y := by
  cases y with
  | none => simp only [Ev, wanted_put o a d v h, opRel_put hs h, put_size]
  | some x => simp only [Ev, wanted_put o a d v h, opRel_put hs h, opPlain_put hs h]
theorem Ev.more {o : Oper} {F : Tmp → Prop} {a : Act} {t : Tmp} {y : Option Value} (h : t ∉ o.looksAt ops) : Ev P ops C G R o (more F t) a y ↔ Ev P ops C G R o F a y := by
  cases y with
  | none => simp only [Ev, opRel_more h]
  | some x => simp only [Ev, opRel_more h, opPlain_more h]

theorem Ev.same {o : Oper} {F : Tmp → Prop} {a : Act} {x : Value} {y : Option Value} (hk : KnownTo C R F a) (h : Ev P ops C G R o F a (some x)) (h' : Ev P ops C G R o F a y) : y = some x := by
  obtain ⟨w, hC, hK⟩ := hk
  cases y with
  | none =>
    obtain ⟨h1, t, r, h2, h3, -⟩ := h'
    rcases h with ⟨h4, -⟩ | ⟨-, (⟨h4, -⟩ | ⟨t', h4, h5, -⟩)⟩
    · rw [h1] at h4; cases h4
    · rw [h2] at h4; cases h4
    · rw [h2] at h4
      injection h4 with h4
      subst h4
      rw [h3] at h5
      cases h5
  | some y =>
    rcases h with ⟨h1, rfl⟩ | ⟨h1, (⟨h4, -, rfl⟩ | ⟨t, h4, h5, h6⟩)⟩ <;> rcases h' with ⟨k1, rfl⟩ | ⟨k1, (⟨k4, -, rfl⟩ | ⟨t', k4, k5, k6⟩)⟩
    · rfl
    · rfl
    · rw [h1] at k1; cases k1
    · rfl
    · rfl
    · rw [h4] at k4; cases k4
    · rw [h1] at k1; cases k1
    · rw [h4] at k4; cases k4
    · rw [plain_same (h6 w hC hK.leans) (k6 w hC hK.leans)]

theorem Ev.some_value (hR : Stable C G R) {o : Oper} {F : Tmp → Prop} {a : Act} {t : Tmp} (hk : KnownTo C R F a) (hf : ¬ F t) (ht : o.dst = some t) (h : Ev P ops C G R o F a none) : ∃ v, KnownTo C R (Go.Proofs.YtmhloapjadhifaaGreatDoor.Own.more F t) (a.put (some t) v) := by
  obtain ⟨w, hC, hK⟩ := hk
  obtain ⟨-, t', r, h2, h3, h4, h5⟩ := h
  rw [ht] at h2
  injection h2 with h2
  subst h2
  obtain ⟨u, w', hC', hG, hu⟩ := rel_some (h5 w hC hK.leans)
  exact ⟨u, w', hC', hK.made hR hC hC' hG hf h4 h3 hu⟩

theorem opAt_mono {o : Oper} {K K' : (Tmp → Prop) → Act → Prop} {F : Tmp → Prop} {a : Act} (hk : KnownTo C R F a) (hf : ∀ t, o.dst = some t → ¬ F t)
    (h : ∀ F1 a1, KnownTo C R F1 a1 → (F1 = F ∨ ∃ t, o.dst = some t ∧ F1 = more F t) → K F1 a1 → K' F1 a1) (hh : opAt P ops C G R o K F a) : opAt P ops C G R o K' F a := by
  rw [opAt_iff] at *
  rcases hh with ⟨x, h1, h2⟩ | ⟨h1, h2⟩
  · exact .inl ⟨x, h1, h _ _ ((KnownTo.put hf).2 hk) (.inl rfl) h2⟩
  · exact .inr ⟨h1, fun t ht v hv => h _ _ hv (.inr ⟨t, ht, rfl⟩) (h2 t ht v hv)⟩

theorem opAt_some (hR : Stable C G R) {o : Oper} {K : (Tmp → Prop) → Act → Prop} {F : Tmp → Prop} {a : Act} (hk : KnownTo C R F a) (hf : ∀ t, o.dst = some t → ¬ F t) (hh : opAt P ops C G R o K F a) : ∃ F' a', K F' a' := by
  rw [opAt_iff] at hh
  rcases hh with ⟨x, h1, h2⟩ | ⟨h1, h2⟩
  · exact ⟨_, _, h2⟩
  · obtain ⟨-, t, r, ht, -⟩ := id h1
    obtain ⟨v, hv⟩ := h1.some_value hR hk (hf t ht) ht
    exact ⟨_, _, h2 t ht v hv⟩

theorem opAt_swap (hR : Stable C G R) {oi oj : Oper} {K : (Tmp → Prop) → Act → Prop} {F : Tmp → Prop} {a : Act} (hap : oi.apart ops oj = true) (hsi : ∀ cs b, oi.op ≠ .select cs b) (hsj : ∀ cs b, oj.op ≠ .select cs b)
    (hk : KnownTo C R F a) (hfi : ∀ t, oi.dst = some t → ¬ F t) (hfj : ∀ t, oj.dst = some t → ¬ F t)
    (h : opAt P ops C G R oi (fun F1 a1 => opAt P ops C G R oj K F1 a1) F a) : opAt P ops C G R oj (fun F2 a2 => opAt P ops C G R oi K F2 a2) F a := by
  obtain ⟨a1, a2, a3⟩ := Oper.apart_spec hap
  have hne : ∀ s t, oi.dst = some s → oj.dst = some t → s ≠ t := fun s t hs ht e => a2 s hs (by rw [ht, e])
  have hmi : ∀ t, oj.dst = some t → ∀ s, oi.dst = some s → ¬ more F t s := fun t ht s hs => not_more (hfi s hs) (hne s t hs ht)
  have hmj : ∀ t, oi.dst = some t → ∀ s, oj.dst = some s → ¬ more F t s := fun t ht s hs => not_more (hfj s hs) (fun e => hne t s ht hs e.symm)
  simp only [opAt_iff] at *
  rcases h with ⟨x, h1, ⟨y, h2, h3⟩ | ⟨h2, h3⟩⟩ | ⟨h1, h3⟩
  · refine .inl ⟨y, (Ev.put hsj a1).1 h2, .inl ⟨x, (Ev.put hsi a3).2 h1, ?_⟩⟩
    rw [← Act.put_comm a x y a2]
    exact h3
  · refine .inr ⟨(Ev.put hsj a1).1 h2, fun t ht v hv => .inl ⟨x, ?_, ?_⟩⟩
    · exact (Ev.more (a3 t ht)).2 ((Ev.put hsi (fun s hs => by injection hs with hs; subst hs; exact a3 _ ht)).2 h1)
    · have e := Act.put_comm a (x := oi.dst) (y := some t) x v (fun d hd => by rw [← ht]; exact a2 d hd)
      rw [← e]
      refine h3 t ht v ?_
      rw [e]
      exact (KnownTo.put (hmi t ht)).2 hv
  · obtain ⟨-, t, r, ht, -⟩ := id h1
    have e : ∀ y v, (a.put (some t) v).put oj.dst y = (a.put oj.dst y).put (some t) v := fun y v => Act.put_comm a v y (fun d hd => by injection hd with hd; subst hd; exact a2 t ht)
    obtain ⟨v0, hv0⟩ := h1.some_value hR hk (hfi t ht) ht
    have down : ∀ v z, Ev P ops C G R oj (more F t) (a.put (some t) v) z → Ev P ops C G R oj F a z := fun v z hz => (Ev.put hsj (fun s hs => by injection hs with hs; subst hs; exact a1 _ ht)).1 ((Ev.more (a1 t ht)).1 hz)
    rcases h3 t ht v0 hv0 with ⟨y0, h4, h5⟩ | ⟨h4, h5⟩
    · refine .inl ⟨y0, down _ _ h4, .inr ⟨(Ev.put hsi a3).2 h1, fun t' ht' v hv => ?_⟩⟩
      obtain rfl : t = t' := by rw [ht] at ht'; injection ht'
      rw [← e] at hv ⊢
      have hv' := (KnownTo.put (hmj t ht)).1 hv
      rcases h3 t ht v hv' with ⟨y, h6, h7⟩ | ⟨h6, h7⟩
      · have h8 := Ev.same hk (down _ _ h4) (down _ _ h6)
        injection h8 with h8
        rw [h8] at h7
        exact h7
      · have h8 := Ev.same hk (down _ _ h4) (down _ _ h6)
        cases h8
    · refine .inr ⟨down _ _ h4, fun s hs u hu => .inr ⟨?_, fun t' ht' v hv => ?_⟩⟩
      · exact (Ev.more (a3 s hs)).2 ((Ev.put hsi (fun s' hs' => by injection hs' with hs'; subst hs'; exact a3 _ hs)).2 h1)
      · obtain rfl : t = t' := by rw [ht] at ht'; injection ht'
        have e2 : (a.put (some t) v).put (some s) u = (a.put (some s) u).put (some t) v := by rw [← hs]; exact e u v
        rw [more_comm, ← e2] at hv ⊢
        have hv' : KnownTo C R (more F t) (a.put (some t) v) := by
          obtain ⟨w, hC, hK⟩ := hv
          exact ⟨w, hC, (Knows.put (d := some s) (fun s' hs' => by injection hs' with hs'; subst hs'; exact hmj t ht _ hs)).1 hK.less⟩
        rcases h3 t ht v hv' with ⟨y, h6, h7⟩ | ⟨h6, h7⟩
        · have h8 := Ev.same hk (down _ _ h6) (down _ _ h4)
          cases h8
        · exact h7 s hs u hv

theorem fresh_next (hD : ∀ (k k' : Nat) (o o' : Oper) (t : Tmp), ops[k]? = some o → ops[k']? = some o' → o.dst = some t → o'.dst = some t → k = k') {listed : Array Bool} {F F1 : Tmp → Prop} {i : Nat} {oi : Oper} (hi : ops[i]? = some oi) (hun : listed.getD i true = false)
    (hf : ∀ (k : Nat) (o : Oper) (t : Tmp), ops[k]? = some o → listed.getD k true = false → o.dst = some t → ¬ F t) (h1 : F1 = F ∨ ∃ t, oi.dst = some t ∧ F1 = more F t) :
    ∀ (k : Nat) (o : Oper) (t : Tmp), ops[k]? = some o → (listed.setIfInBounds i true).getD k true = false → o.dst = some t → ¬ F1 t := by
  intro k o t hk hl ht
  have hki : i ≠ k := fun e => by
    subst e
    have : i < listed.size := by
      rcases Nat.lt_or_ge i listed.size with h' | h'
      · exact h'
      · simp [Array.getElem?_eq_none h'] at hun
    simp [this] at hl
  rw [getD_set_ne true hki] at hl
  rcases h1 with rfl | ⟨s, hs, rfl⟩
  · exact hf k o t hk hl ht
  · exact not_more (hf k o t hk hl ht) (fun e => hki (hD i k oi o s hi hk hs (by rw [ht, e])))

theorem anyR_first (hR : Stable C G R) (hD : ∀ (k k' : Nat) (o o' : Oper) (t : Tmp), ops[k]? = some o → ops[k']? = some o' → o.dst = some t → o'.dst = some t → k = k') (hsel : ∀ (j : Nat) (o : Oper) cs b, ops[j]? = some o → o.op ≠ .select cs b) {i : Nat} {oi : Oper} (hi : ops[i]? = some oi) :
    ∀ (n : Nat) (listed : Array Bool) (F : Tmp → Prop) (a : Act),
      (∀ j oj, ops[j]? = some oj → j ≠ i → listed.getD j true = false → (∀ e ∈ oj.after, Region.binds md e = true → e.on ≠ i) → oi.apart ops oj = true) →
      i ∈ Region.ready md ops listed → (∀ (k : Nat) (o : Oper) (t : Tmp), ops[k]? = some o → listed.getD k true = false → o.dst = some t → ¬ F t) → KnownTo C R F a →
      opAt P ops C G R oi (anyR P ops C G R md E n (listed.setIfInBounds i true)) F a → anyR P ops C G R md E (n + 1) listed F a := by
  intro n
  induction n with
  | zero =>
    intro listed F a _ hr hf hk H
    have hun := (mem_ready.1 hr).1
    refine ⟨fun h => (by rw [h] at hr; cases hr), fun j hj oj hoj => ?_⟩
    by_cases hji : j = i
    · subst hji
      rw [hi] at hoj
      injection hoj with hoj
      subst hoj
      exact H
    · obtain ⟨F', a', h0, -⟩ := opAt_some hR hk (fun t ht => hf i oi t hi hun ht) H
      have := ready_mono hj hji
      rw [h0] at this
      cases this
  | succ n ih =>
    intro listed F a hfree hr hf hk H
    have hun := (mem_ready.1 hr).1
    refine ⟨fun h => (by rw [h] at hr; cases hr), fun j hj oj hoj => ?_⟩
    by_cases hji : j = i
    · subst hji
      rw [hi] at hoj
      injection hoj with hoj
      subst hoj
      exact H
    · obtain ⟨hjun, oj', hoj', hall⟩ := mem_ready.1 hj
      rw [hoj] at hoj'
      injection hoj' with hoj'
      subst hoj'
      have hnot : ∀ e ∈ oj.after, Region.binds md e = true → e.on ≠ i := fun e he hb heq => by
        have h1 := hall e he hb
        rw [heq] at h1
        rcases Nat.lt_or_ge i listed.size with h' | h'
        · simp [h'] at hun h1; rw [hun] at h1; cases h1
        · simp [Array.getElem?_eq_none h'] at h1
      have hap := hfree j oj hoj hji hjun hnot
      have hfi : ∀ t, oi.dst = some t → ¬ F t := fun t ht => hf i oi t hi hun ht
      have hfj : ∀ t, oj.dst = some t → ¬ F t := fun t ht => hf j oj t hoj hjun ht
      have h1 := opAt_swap hR (K := anyR P ops C G R md E n ((listed.setIfInBounds i true).setIfInBounds j true)) hap (fun cs b => hsel i oi cs b hi) (fun cs b => hsel j oj cs b hoj) hk hfi hfj
        (opAt_mono hk hfi (fun F1 a1 _ _ h2 => h2.2 j (ready_mono hj hji) oj hoj) H)
      refine opAt_mono hk hfj (fun F1 a1 hk1 hF1 h2 => ?_) h1
      rw [Array.setIfInBounds_comm _ _ (Ne.symm hji)] at h2
      refine ih (listed.setIfInBounds j true) F1 a1 (fun k ok hok hki hun' hno => ?_) (ready_mono hr (Ne.symm hji)) (fresh_next hD hoj hjun hf hF1) hk1 h2
      refine hfree k ok hok hki ?_ hno
      by_cases hjk : j = k
      · subst hjk; exact hjun
      · rw [getD_set_ne true hjk] at hun'; exact hun'

theorem walkR_any (hR : Stable C G R) (hD : ∀ (k k' : Nat) (o o' : Oper) (t : Tmp), ops[k]? = some o → ops[k']? = some o' → o.dst = some t → o'.dst = some t → k = k') (hs : Region.noSelect ops = true) :
    ∀ (l : List Oper) (k : Nat) (listed : Array Bool) (F : Tmp → Prop) (a : Act), (∀ j, l[j]? = ops[k + j]?) → Region.lexFrom md ops l.length k listed = true →
      (∀ (k : Nat) (o : Oper) (t : Tmp), ops[k]? = some o → listed.getD k true = false → o.dst = some t → ¬ F t) → KnownTo C R F a → walkR P ops C G R E l F a → anyR P ops C G R md E l.length listed F a
  | [], _, _, _, _, _, hB, _, _, h => ⟨by simpa [Region.lexFrom] using hB, h⟩
  | o :: l, k, listed, F, a, hl, hB, hf, hk, h => by
    have h0 : ops[k]? = some o := by simpa using (hl 0).symm
    simp only [List.length_cons, Region.lexFrom, Bool.and_eq_true] at hB
    obtain ⟨⟨hr, hfr⟩, hB'⟩ := hB
    have hr' : k ∈ Region.ready md ops listed := by simpa using hr
    have hun := (mem_ready.1 hr').1
    refine anyR_first hR hD (Region.noSelect_spec hs) h0 l.length listed F a (Region.free_spec h0 hfr) hr' hf hk ?_
    refine opAt_mono hk (fun t ht => hf k o t h0 hun ht) (fun F1 a1 hk1 hF1 h2 => ?_) (show opAt P ops C G R o (walkR P ops C G R E l) F a from h)
    exact walkR_any hR hD hs l (k + 1) _ F1 a1 (fun j => by have := hl (j + 1); simpa [Nat.add_assoc, Nat.add_comm 1 j] using this) hB' (fresh_next hD h0 hun hf hF1) hk1 h2

/-- No two operations write one temporary. -/
def apartDst (l : List Oper) : Bool := (List.range l.length).all fun k => (List.range l.length).all fun k' => k == k' || match (l[k]?).bind (·.dst), (l[k']?).bind (·.dst) with
  | some s, some t => s != t
  | _, _ => true
theorem apartDst_spec {l : List Oper} (h : apartDst l = true) (k k' : Nat) (o o' : Oper) (t : Tmp) (ho : l.toArray[k]? = some o) (ho' : l.toArray[k']? = some o') (hd : o.dst = some t) (hd' : o'.dst = some t) : k = k' := by
  simp only [List.getElem?_toArray] at ho ho'
  have hk : k < l.length := (List.getElem?_eq_some_iff.1 ho).1
  have hk' : k' < l.length := (List.getElem?_eq_some_iff.1 ho').1
  simp only [apartDst, List.all_eq_true, List.mem_range] at h
  have h1 := h k hk k' hk'
  rw [ho, ho'] at h1
  simp only [Option.bind_some, hd, hd', bne_self_eq_false, Bool.or_false, beq_iff_eq] at h1
  exact h1

/-- **A region whose operations are written out, in a class of worlds, with relations.** -/
theorem wp_region_rel {P : Program} (C : World → Prop) (G : World → World → Prop) (R : Tmp → Option RelO) {id : Nat} {Q : Exit → Act → World → Prop} {a : Act} {w : World} {l : List Oper}
    (hm : P.follows .mixedOrders = true) (hB : Region.lexB .any l.toArray = true) (hA : apartDst l = true) (hR : Stable C G R) (hC : C w.drew)
    (h : walkR P l.toArray C G R (fun F a' => ∀ w', C w' → Knows R F a' w' → Q .normal a' w') l (fun _ => False) a) : (Code.region id l.toArray true).wp P Q a w := by
  simp only [Region.lexB, Bool.and_eq_true] at hB
  have hD := apartDst_spec hA
  have hk : ∀ w, Knows R (fun _ => False) a w := fun w => ⟨fun s hs => hs.elim, fun s t hs => hs.elim⟩
  refine wp_region_any hm (wpAny_of_anyR hR (E := fun F a' => ∀ w', C w' → Knows R F a' w' → Q .normal a' w') (fun F a w hC hK h => h w hC hK) hD _ _ (fun _ => False) a _ (fun _ _ _ _ _ _ h => h) hC (hk _) ?_)
  have := walkR_any (md := .any) hR hD hB.1 l 0 (Array.replicate l.toArray.size false) (fun _ => False) a (by simp) (by simpa using hB.2) (fun _ _ _ _ _ _ h => h) ⟨_, hC, hk _⟩ h
  simpa using this
end
end Go.Proofs.YtmhloapjadhifaaGreatDoor.Own

namespace Go.Proofs.YtmhloapjadhifaaGreatDoor.Own
set_option linter.unusedVariables false
set_option linter.unusedSimpArgs false
open Go

/-- The operation made idle: it waits for what it waited for, and does nothing. -/
def idle (o : Oper) : Oper := { o with op := .move (.const (.bool true)), dst := none }
/-- All from number m on are idle. -/
def idleTail : Nat → List Oper → List Oper
  | _, [] => []
  | 0, o :: l => idle o :: idleTail 0 l
  | m + 1, o :: l => o :: idleTail m l

theorem idleTail_get : ∀ (m : Nat) (l : List Oper) (j : Nat), (idleTail m l)[j]? = if m ≤ j then (l[j]?).map idle else l[j]?
  | m, [], j => by cases m <;> simp [idleTail]
  | 0, o :: l, j => by
    cases j with
    | zero => rfl
    | succ j =>
      show (idleTail 0 l)[j]? = _
      rw [idleTail_get 0 l j]
      simp
  | m + 1, o :: l, j => by
    cases j with
    | zero => simp [idleTail]
    | succ j =>
      show (idleTail m l)[j]? = _
      rw [idleTail_get m l j]
      simp
theorem idleTail_len (m : Nat) (l : List Oper) : (idleTail m l).length = l.length := by
  induction l generalizing m with
  | nil => cases m <;> rfl
  | cons o l ih => cases m <;> simp [idleTail, ih]

/-- Each operation before number m is waited for by a later one, up to m; none waits for a later one; each behind m waits for the one before it. -/
def tailB (m : Nat) (ops : Array Oper) : Bool :=
  ((List.range m).all fun j => (List.range (m + 1)).any fun k => decide (j < k) && ((ops[k]?).map fun o => o.after.any fun e => Region.binds .any e && e.on == j).getD false) &&
  (((List.range ops.size).all fun k => ((ops[k]?).map fun o => o.after.all fun e => !Region.binds .any e || decide (e.on < k)).getD true) &&
  ((List.range ops.size).all fun k => decide (k ≤ m) || ((ops[k]?).map fun o => o.after.any fun e => Region.binds .any e && e.on + 1 == k).getD false))

def Closed (ops : Array Oper) (listed : Array Bool) : Prop := listed.size = ops.size ∧ ∀ (i : Nat) (o : Oper), ops[i]? = some o → listed.getD i false = true → ∀ e ∈ o.after, Region.binds .any e = true → listed.getD e.on false = true

theorem getD_false_true {listed : Array Bool} {j : Nat} (hj : j < listed.size) : listed.getD j true = listed.getD j false := by simp [hj]

theorem Closed.set {ops : Array Oper} {listed : Array Bool} (h : Closed ops listed) {i : Nat} (hi : i ∈ Region.ready .any ops listed) : Closed ops (listed.setIfInBounds i true) := by
  obtain ⟨hun, o, ho, hall⟩ := mem_ready.1 hi
  have up : ∀ j, listed.getD j false = true → (listed.setIfInBounds i true).getD j false = true := fun j hj => by
    by_cases e : i = j
    · subst e
      have : i < listed.size := by
        rcases Nat.lt_or_ge i listed.size with h' | h'
        · exact h'
        · simp [Array.getElem?_eq_none h'] at hun
      simp [this]
    · rw [getD_set_ne false e]
      exact hj
  refine ⟨by simpa using h.1, fun k ok hok hk e he hb => ?_⟩
  by_cases e' : i = k
  · subst e'
    rw [ho] at hok
    injection hok with hok
    subst hok
    exact up _ (hall e he hb)
  · rw [getD_set_ne false e'] at hk
    exact up _ (h.2 k ok hok hk e he hb)

theorem all_listed {m : Nat} {ops : Array Oper} (hB : tailB m ops = true) (hm : m < ops.size) {listed : Array Bool} (h : Closed ops listed) (hr : m ∈ Region.ready .any ops listed) : ∀ j, j < m → listed.getD j false = true := by
  unfold tailB at hB
  rw [Bool.and_eq_true] at hB
  have h1 := List.all_eq_true.1 hB.1
  obtain ⟨hun, o, ho, hall⟩ := mem_ready.1 hr
  have key : ∀ d j, j + 1 + d = m + 1 → j < m → listed.getD j false = true := by
    intro d
    induction d using Nat.strongRecOn with
    | _ d ih =>
      intro j hd hj
      have h2 := h1 j (List.mem_range.2 hj)
      obtain ⟨k, hk, h3⟩ := List.any_eq_true.1 h2
      rw [List.mem_range] at hk
      rw [Bool.and_eq_true, decide_eq_true_eq] at h3
      obtain ⟨hjk, h4⟩ := h3
      cases ho' : ops[k]? with
      | none => rw [ho'] at h4; cases h4
      | some o' =>
        rw [ho'] at h4
        simp only [Option.map_some, Option.getD_some, Array.any_eq_true] at h4
        obtain ⟨q, hq, h5⟩ := h4
        rw [Bool.and_eq_true, beq_iff_eq] at h5
        have hmem := Array.getElem_mem hq
        by_cases e : k = m
        · subst e
          rw [ho] at ho'
          injection ho' with ho'
          subst ho'
          rw [← h5.2]
          exact hall _ hmem h5.1
        · have h6 := ih (m + 1 - (k + 1)) (by omega) k (by omega) (by omega)
          rw [← h5.2]
          exact h.2 k o' ho' h6 _ hmem h5.1
  exact fun j hj => key (m + 1 - (j + 1)) j (by omega) hj

theorem earlier {m : Nat} {ops : Array Oper} (hB : tailB m ops = true) {k : Nat} {o : Oper} (ho : ops[k]? = some o) : ∀ e ∈ o.after, Region.binds .any e = true → e.on < k := fun e he hb => by
  unfold tailB at hB
  rw [Bool.and_eq_true, Bool.and_eq_true] at hB
  have hk : k < ops.size := (Array.getElem?_eq_some_iff.1 ho).1
  have h3 := List.all_eq_true.1 hB.2.1 k (List.mem_range.2 hk)
  rw [ho] at h3
  simp only [Option.map_some, Option.getD_some] at h3
  have h4 := Array.all_eq_true_iff_forall_mem.1 h3 e he
  rw [hb] at h4
  simpa using h4
theorem waits {m : Nat} {ops : Array Oper} (hB : tailB m ops = true) {k : Nat} {o : Oper} (ho : ops[k]? = some o) (hk : m < k) : ∃ e ∈ o.after, Region.binds .any e = true ∧ e.on + 1 = k := by
  unfold tailB at hB
  rw [Bool.and_eq_true, Bool.and_eq_true] at hB
  have hks : k < ops.size := (Array.getElem?_eq_some_iff.1 ho).1
  have h3 := List.all_eq_true.1 hB.2.2 k (List.mem_range.2 hks)
  rw [ho, decide_eq_false (by omega), Bool.false_or] at h3
  simp only [Option.map_some, Option.getD_some, Array.any_eq_true] at h3
  obtain ⟨q, hq, h5⟩ := h3
  rw [Bool.and_eq_true, beq_iff_eq] at h5
  exact ⟨_, Array.getElem_mem hq, h5.1, h5.2⟩

theorem ready_nonempty {m : Nat} {ops : Array Oper} (hB : tailB m ops = true) {listed : Array Bool} (hs : listed.size = ops.size) {k : Nat} (hk : k < ops.size) (hun : listed.getD k true = false) : Region.ready .any ops listed ≠ [] := by
  have key : ∀ k, k < ops.size → listed.getD k true = false → ∃ m, m ∈ Region.ready .any ops listed := by
    intro k
    induction k using Nat.strongRecOn with
    | _ k ih =>
      intro hk hun
      by_cases hr : k ∈ Region.ready .any ops listed
      · exact ⟨k, hr⟩
      · have ho : ops[k]? = some ops[k] := Array.getElem?_eq_getElem hk
        have h2 : ¬ ∀ e ∈ ops[k].after, Region.binds .any e = true → listed.getD e.on false = true := fun hall => hr (mem_ready.2 ⟨hun, _, ho, hall⟩)
        simp only [Classical.not_forall] at h2
        obtain ⟨e, he, hb, hne⟩ := h2
        have hlt := earlier hB ho e he hb
        exact ih e.on hlt (by omega) (by rw [getD_false_true (by omega)]; simpa using hne)
  obtain ⟨m, hm⟩ := key k hk hun
  intro h0
  rw [h0] at hm
  cases hm

/-- All before k are listed, none from k on. -/
def Upto (ops : Array Oper) (k : Nat) (listed : Array Bool) : Prop := listed.size = ops.size ∧ (∀ j, j < k → listed.getD j false = true) ∧ ∀ j, k ≤ j → j < ops.size → listed.getD j true = false
theorem Upto.next {ops : Array Oper} {k : Nat} {listed : Array Bool} (h : Upto ops k listed) (hk : k < ops.size) : Upto ops (k + 1) (listed.setIfInBounds k true) := by
  obtain ⟨hs, h1, h2⟩ := h
  refine ⟨by simpa using hs, fun j hj => ?_, fun j hj hjs => ?_⟩
  · by_cases e : k = j
    · subst e
      have : k < listed.size := by omega
      simp [this]
    · rw [getD_set_ne false e]
      exact h1 j (by omega)
  · rw [getD_set_ne true (by omega)]
    exact h2 j (by omega) hjs
theorem Upto.ready {m : Nat} {ops : Array Oper} (hB : tailB m ops = true) {k : Nat} {listed : Array Bool} (h : Upto ops k listed) (hmk : m < k) {i : Nat} (hi : i ∈ Region.ready .any ops listed) : i = k := by
  obtain ⟨hun, o, ho, hall⟩ := mem_ready.1 hi
  have his : i < ops.size := (Array.getElem?_eq_some_iff.1 ho).1
  have hsz := h.1
  have h1 : k ≤ i := by
    rcases Nat.lt_or_ge i k with h' | h'
    · have h2 := h.2.1 i h'
      rw [← getD_false_true (by omega)] at h2
      rw [h2] at hun
      cases hun
    · exact h'
  rcases Nat.lt_or_ge k i with h' | h'
  · obtain ⟨e, he, hb, hon⟩ := waits hB ho (by omega)
    have h2 := hall e he hb
    have h3 := h.2.2 e.on (by omega) (by omega)
    rw [getD_false_true (by omega), h2] at h3
    cases h3
  · omega
theorem Upto.isReady {m : Nat} {ops : Array Oper} (hB : tailB m ops = true) {k : Nat} {listed : Array Bool} (h : Upto ops k listed) (hk : k < ops.size) : k ∈ Region.ready .any ops listed :=
  mem_ready.2 ⟨h.2.2 k (Nat.le_refl _) hk, _, Array.getElem?_eq_getElem hk, fun e he hb => h.2.1 e.on (earlier hB (Array.getElem?_eq_getElem hk) e he hb)⟩

/-- What is asked behind all operations before number m. -/
def tailQ (P : Program) (ops : Array Oper) (l : List Oper) (Q : Exit → Act → World → Prop) : Exit → Act → World → Prop
  | .normal, a, w => wpList P ops Q l a w
  | e, a, w => Q e a w

theorem wp_tail {P : Program} {ops : Array Oper} {l : List Oper} {p : Oper} {Q : Exit → Act → World → Prop} {a : Act} {w : World} {K K' : Act → World → Prop} (hK : ∀ a w, K a w → K' a w) (h : p.wp P a w K (tailQ P ops l Q)) : p.wp P a w K' Q := by
  unfold Oper.wp at *
  generalize (execOp a.eval p).run P w = x at *
  unfold Oper.upon at *
  split at h
  · exact hK _ _ h
  · exact hK _ _ h
  · exact hK _ _ h
  · refine h.mono fun e w' h' => ?_
    cases e with
    | returned v => exact hK _ _ h'
    | panicked c => exact h'
    | outgrown => exact h'
  · exact h.mono fun v w' h' => hK _ _ h'
  · exact h
  · exact h.elim

section
variable {P : Program} {l : List Oper} {m : Nat} {Q : Exit → Act → World → Prop}

theorem ready_idle (listed : Array Bool) : Region.ready .any (idleTail m l).toArray listed = Region.ready .any l.toArray listed := by
  unfold Region.ready
  have e : (idleTail m l).toArray.size = l.toArray.size := by simp [idleTail_len]
  rw [e]
  refine List.filter_congr fun i hi => ?_
  have : (((idleTail m l).toArray)[i]?).map (·.after) = (l.toArray[i]?).map (·.after) := by
    simp only [List.getElem?_toArray, idleTail_get]
    split
    · cases l[i]? <;> rfl
    · rfl
  congr 1
  cases h1 : (idleTail m l).toArray[i]? with
  | none =>
    rw [h1] at this
    cases h2 : l.toArray[i]? with
    | none => rfl
    | some x => rw [h2] at this; cases this
  | some y =>
    rw [h1] at this
    cases h2 : l.toArray[i]? with
    | none => rw [h2] at this; cases this
    | some x =>
      rw [h2] at this
      simp only [Option.map_some, Option.some.injEq] at this
      simp only [Option.map_some, Option.getD_some, this]

/-- The last operations, in the real region. -/
theorem run_tail (hB : tailB m l.toArray = true) : ∀ (d k n : Nat) (listed : Array Bool) (a : Act) (w : World), k + d = l.length → m < k → Upto l.toArray k listed → d ≤ n → wpList P l.toArray Q (l.drop k) a w → wpAny P .any l.toArray Q n listed a w := by
  intro d
  induction d with
  | zero =>
    intro k n listed a w hk hm hu hn h
    have hend : Region.ready .any l.toArray listed = [] := by
      rw [List.eq_nil_iff_forall_not_mem]
      intro i hi
      obtain rfl := hu.ready hB hm hi
      obtain ⟨-, o, ho, -⟩ := mem_ready.1 hi
      have := (Array.getElem?_eq_some_iff.1 ho).1
      simp at this
      omega
    have hq : Q .normal a w := by
      rw [List.drop_of_length_le (by omega)] at h
      exact h
    cases n with
    | zero => exact ⟨hend, hq⟩
    | succ n => exact ⟨fun _ => hq, fun i hi => by rw [hend] at hi; cases hi⟩
  | succ d ih =>
    intro k n listed a w hk hm hu hn h
    cases n with
    | zero => omega
    | succ n =>
      have hks : k < l.toArray.size := by simp; omega
      refine ⟨fun h0 => (by have h9 := hu.isReady hB hks; rw [h0] at h9; cases h9), fun i hi => ?_⟩
      obtain rfl := hu.ready hB hm hi
      rw [List.drop_eq_getElem_cons (by omega)] at h
      unfold wpOp
      rw [List.getElem?_toArray, List.getElem?_eq_getElem (by omega)]
      simp only
      unfold wpList at h
      have hrec : ∀ a' w', wpList P l.toArray Q (l.drop (i + 1)) a' w' → wpAny P .any l.toArray Q n (listed.setIfInBounds i true) a' w' := fun a' w' hh =>
        ih (i + 1) n _ a' w' (by omega) (by omega) (hu.next hks) (by omega) hh
      split at h
      · rename_i hw
        rw [if_pos hw]
        rcases h with h3 | h3
        · exact .inl (Oper.wp_mono hrec h3)
        · exact .inr h3
      · rename_i hw
        rw [if_neg hw]
        exact hrec _ _ h

theorem idle_asks {a : Act} {w : World} {o : Oper} : ¬ (idle o).asks P a w := by
  intro h5
  unfold Oper.asks at h5
  have h6 : (Sem.runT P (execOp a.eval (idle o)) w #[]).snd = #[] := rfl
  rw [h6] at h5
  exact absurd h5.1 (by simp)

/-- The idle operations do nothing. -/
theorem idle_tail {Q' : Exit → Act → World → Prop} (hB : tailB m l.toArray = true) (hng : ∀ (j : Nat) (o : Oper), l[j]? = some o → o.guard = none) : ∀ (d k n : Nat) (listed : Array Bool) (a : Act) (w : World), k + d = l.length → m < k → Upto l.toArray k listed → wpAny P .any (idleTail m l).toArray Q' n listed a w → d ≤ n ∧ Q' .normal a w := by
  intro d
  induction d with
  | zero =>
    intro k n listed a w hk hm hu h
    refine ⟨Nat.zero_le _, ?_⟩
    cases n with
    | zero => exact h.2
    | succ n =>
      refine h.1 ?_
      rw [ready_idle, List.eq_nil_iff_forall_not_mem]
      intro i hi
      obtain rfl := hu.ready hB hm hi
      obtain ⟨-, o, ho, -⟩ := mem_ready.1 hi
      have := (Array.getElem?_eq_some_iff.1 ho).1
      simp at this
      omega
  | succ d ih =>
    intro k n listed a w hk hm hu h
    have hks : k < l.toArray.size := by simp; omega
    have hr := hu.isReady hB hks
    cases n with
    | zero =>
      have h1 := h.1
      rw [ready_idle] at h1
      rw [h1] at hr
      cases hr
    | succ n =>
      have h2 := h.2 k (by rw [ready_idle]; exact hr)
      have hgo : wpAny P .any (idleTail m l).toArray Q' n (listed.setIfInBounds k true) a w := by
        have hl : l[k]? = some (l[k]'(by omega)) := List.getElem?_eq_getElem (by omega)
        generalize (l[k]'(by omega)) = o at hl
        have hidle : (idleTail m l).toArray[k]? = some (idle o) := by
          rw [List.getElem?_toArray, idleTail_get, if_pos (by omega), hl]
          rfl
        unfold wpOp at h2
        rw [hidle] at h2
        simp only at h2
        have hput : ∀ v, a.put (idle o).dst v = a := fun v => rfl
        split at h2
        · rcases h2 with h3 | ⟨h3, -⟩
          · have h4 : wpAny P .any (idleTail m l).toArray Q' n (listed.setIfInBounds k true) (a.put (idle o).dst (.bool true)) w := h3
            rw [hput] at h4
            exact h4
          · exact absurd h3 idle_asks
        · rw [hput] at h2
          exact h2
      obtain ⟨h3, h4⟩ := ih (k + 1) n _ a w (by omega) (by omega) (hu.next hks) hgo
      exact ⟨by omega, h4⟩

theorem wpAny_tail (hB : tailB m l.toArray = true) (hm : m < l.length) (hng : ∀ (j : Nat) (o : Oper), l[j]? = some o → o.guard = none) : ∀ (n : Nat) (listed : Array Bool) (a : Act) (w : World), Closed l.toArray listed → (∀ j, m ≤ j → j < l.length → listed.getD j true = false) →
    wpAny P .any (idleTail m l).toArray (tailQ P l.toArray (l.drop m) Q) n listed a w → wpAny P .any l.toArray Q n listed a w
  | 0, listed, a, w, hc, hun, h => by
    have h1 := h.1
    rw [ready_idle] at h1
    exact absurd h1 (ready_nonempty hB hc.1 (k := m) (by simpa using hm) (hun m (Nat.le_refl _) hm))
  | n + 1, listed, a, w, hc, hun, h => by
    refine ⟨fun h0 => absurd h0 (ready_nonempty hB hc.1 (k := m) (by simpa using hm) (hun m (Nat.le_refl _) hm)), fun i hi => ?_⟩
    have h2 := h.2 i (by rw [ready_idle]; exact hi)
    have hsz : listed.size = l.toArray.size := hc.1
    have hms : m < l.toArray.size := by simpa using hm
    rcases Nat.lt_trichotomy i m with him | rfl | him
    · have hgeti : (idleTail m l).toArray[i]? = l.toArray[i]? := by
        rw [List.getElem?_toArray, idleTail_get, if_neg (by omega), List.getElem?_toArray]
      have hrec : ∀ a' w', wpAny P .any (idleTail m l).toArray (tailQ P l.toArray (l.drop m) Q) n (listed.setIfInBounds i true) a' w' → wpAny P .any l.toArray Q n (listed.setIfInBounds i true) a' w' :=
        fun a' w' hh => wpAny_tail hB hm hng n _ a' w' (hc.set hi) (fun j h1 h2 => by rw [getD_set_ne true (by omega)]; exact hun j h1 h2) hh
      unfold wpOp at h2 ⊢
      rw [hgeti] at h2
      cases ho : l.toArray[i]? with
      | none =>
        rw [ho] at h2
        exact hrec _ _ h2
      | some p =>
        rw [ho] at h2
        simp only at h2 ⊢
        have hwt : ∀ y, Region.wanted p y = true := fun y => by
          have := hng i p (by simpa using ho)
          simp [Region.wanted, this]
        rw [if_pos (hwt _)] at h2 ⊢
        rcases h2 with h3 | ⟨h3, h4⟩
        · exact .inl (wp_tail hrec h3)
        · exact .inr ⟨h3, h4⟩
    · have hall := all_listed hB hms hc hi
      have hu : Upto l.toArray i listed := ⟨hsz, hall, fun j h1 h2 => hun j h1 (by simpa using h2)⟩
      have hl : l[i]? = some (l[i]'hm) := List.getElem?_eq_getElem hm
      have hidle : (idleTail i l).toArray[i]? = some (idle (l[i]'hm)) := by
        rw [List.getElem?_toArray, idleTail_get, if_pos (by omega), hl]
        rfl
      have hgo : wpAny P .any (idleTail i l).toArray (tailQ P l.toArray (l.drop i) Q) n (listed.setIfInBounds i true) a w := by
        unfold wpOp at h2
        rw [hidle] at h2
        simp only at h2
        have hput : ∀ v, a.put (idle (l[i]'hm)).dst v = a := fun v => rfl
        split at h2
        · rcases h2 with h3 | ⟨h3, -⟩
          · have h4 : wpAny P .any (idleTail i l).toArray (tailQ P l.toArray (l.drop i) Q) n (listed.setIfInBounds i true) (a.put (idle (l[i]'hm)).dst (.bool true)) w := h3
            rw [hput] at h4
            exact h4
          · exact absurd h3 idle_asks
        · rw [hput] at h2
          exact h2
      obtain ⟨hn, hq⟩ := idle_tail hB hng (l.length - (i + 1)) (i + 1) n _ a w (by omega) (by omega) (hu.next hms) hgo
      have hq' : wpList P l.toArray Q (l.drop i) a w := hq
      rw [List.drop_eq_getElem_cons hm] at hq'
      unfold wpOp
      rw [List.getElem?_toArray, hl]
      simp only
      unfold wpList at hq'
      have hrec : ∀ a' w', wpList P l.toArray Q (l.drop (i + 1)) a' w' → wpAny P .any l.toArray Q n (listed.setIfInBounds i true) a' w' := fun a' w' hh =>
        run_tail hB (l.length - (i + 1)) (i + 1) n _ a' w' (by omega) (by omega) (hu.next hms) hn hh
      split at hq'
      · rename_i hw
        rw [if_pos hw]
        rcases hq' with h3 | h3
        · exact .inl (Oper.wp_mono hrec h3)
        · exact .inr h3
      · rename_i hw
        rw [if_neg hw]
        exact hrec _ _ hq'
    · obtain ⟨-, o, ho, hall⟩ := mem_ready.1 hi
      have his : i < l.length := by
        have := (Array.getElem?_eq_some_iff.1 ho).1
        simpa using this
      obtain ⟨e, he, hb, hon⟩ := waits hB ho him
      have h3 := hall e he hb
      have h4 := hun e.on (by omega) (by omega)
      rw [getD_false_true (by have : l.toArray.size = l.length := by simp
                              omega), h3] at h4
      cases h4

theorem rep_false (n i : Nat) : (Array.replicate n false).getD i false = false := by
  unfold Array.getD
  split <;> simp
theorem rep_true {n i : Nat} (h : i < n) : (Array.replicate n false).getD i true = false := by
  unfold Array.getD
  rw [dif_pos (by simpa using h)]
  simp

def noGuards (l : List Oper) : Bool := l.all fun o => o.guard.isNone

/-- **A region whose last operations, from number m on, follow each other and wait for all others.** -/
theorem wp_region_tail (m : Nat) (C : World → Prop) (G : World → World → Prop) (R : Tmp → Option RelO) {id : Nat} {a : Act} {w : World} (hml : decide (m < l.length) = true) (hd : noGuards l = true)
    (hm : P.follows .mixedOrders = true) (hL : tailB m l.toArray = true) (hB : Region.lexB .any (idleTail m l).toArray = true) (hA : apartDst (idleTail m l) = true) (hR : Stable C G R) (hC : C w.drew)
    (h : walkR P (idleTail m l).toArray C G R (fun F a' => ∀ w', C w' → Knows R F a' w' → wpList P l.toArray Q (l.drop m) a' w') (idleTail m l) (fun _ => False) a) : (Code.region id l.toArray true).wp P Q a w := by
  simp only [Region.lexB, Bool.and_eq_true] at hB
  have hml' : m < l.length := by simpa using hml
  have hD := apartDst_spec hA
  have hk : ∀ w, Knows R (fun _ => False) a w := fun w => ⟨fun s hs => hs.elim, fun s t hs => hs.elim⟩
  refine wp_region_any hm ?_
  have hsz : l.toArray.size = (idleTail m l).toArray.size := by simp [idleTail_len]
  have hd' : ∀ (j : Nat) (o : Oper), l[j]? = some o → o.guard = none := fun j o ho => by
    have h1 := List.all_eq_true.1 hd o (by
      rw [List.mem_iff_getElem?]
      exact ⟨j, ho⟩)
    simpa using h1
  refine wpAny_tail hL hml' hd' _ _ _ _ ⟨by simp, fun i o' _ hi => by rw [rep_false] at hi; cases hi⟩ (fun j _ hj => rep_true (by simpa using hj)) ?_
  rw [hsz]
  refine wpAny_of_anyR hR (E := fun F a' => ∀ w', C w' → Knows R F a' w' → wpList P l.toArray Q (l.drop m) a' w') (fun F a w hC hK h => h w hC hK) hD _ _ (fun _ => False) a _ (fun _ _ _ _ _ _ h => h) hC (hk _) ?_
  have := walkR_any (md := .any) hR hD hB.1 (idleTail m l) 0 (Array.replicate (idleTail m l).toArray.size false) (fun _ => False) a (by simp) (by simpa using hB.2) (fun _ _ _ _ _ _ h => h) ⟨_, hC, hk _⟩ h
  simpa using this
end

section
variable {P : Program} {ops : Array Oper} {C : World → Prop} {G : World → World → Prop} {R : Tmp → Option RelO} {E : (Tmp → Prop) → Act → Prop} {o : Oper} {rest : List Oper} {F : Tmp → Prop} {a : Act}
theorem walkR_idle (hG : ∀ w, C w → G w w) (h : walkR P ops C G R E rest F a) : walkR P ops C G R E (idle o :: rest) F a := by
  show opAt P ops C G R (idle o) (walkR P ops C G R E rest) F a
  have hput : ∀ v, a.put (idle o).dst v = a := fun v => rfl
  refine ⟨fun _ => ?_, fun _ => by rw [hput]; exact h⟩
  unfold opDo
  have hd' : (idle o).dst = none := rfl
  rw [hd']
  exact ⟨fun w hC _ => ⟨hC, hG w hC, trivial, fun h => by cases h⟩, h⟩
theorem walkR_skip (hw : Region.wanted o (yielded ops a.tmps) = false) (h : walkR P ops C G R E rest F (a.put o.dst undef)) : walkR P ops C G R E (o :: rest) F a :=
  ⟨fun h1 => (by rw [hw] at h1; cases h1), fun _ => h⟩
theorem walkR_plain {t : Tmp} (hw : Region.wanted o (yielded ops a.tmps) = true) (hd : o.dst = some t) (hr : R t = none) {x : Value} (hx : ∀ w, C w → Leans ops R F o a w → plainUpon x w ((execOp a.eval o).run P w)) (h : walkR P ops C G R E rest F (a.put (some t) x)) : walkR P ops C G R E (o :: rest) F a := by
  refine ⟨fun _ => ?_, fun h1 => by rw [hw] at h1; cases h1⟩
  unfold opDo
  simp only [hd, hr]
  exact ⟨x, hx, h⟩
theorem walkR_rel {t : Tmp} {r : RelO} (hw : Region.wanted o (yielded ops a.tmps) = true) (hd : o.dst = some t) (hr : R t = some r) (ht : t < a.tmps.size) (hx : ∀ w, C w → Leans ops R F o a w → relUpon P C G r w ((execOp a.eval o).run P w))
    (h : ∀ v, (∃ w, C w ∧ r.rel v w) → walkR P ops C G R E rest (more F t) (a.put (some t) v)) : walkR P ops C G R E (o :: rest) F a := by
  refine ⟨fun _ => ?_, fun h1 => by rw [hw] at h1; cases h1⟩
  unfold opDo
  simp only [hd, hr]
  refine ⟨ht, hx, fun v ⟨w, hC, hK⟩ => h v ⟨w, hC, ?_⟩⟩
  have := (hK.1 t (.inl rfl) r hr).1
  rwa [eval_put_self a t v ht] at this
theorem Leans.get {w : World} (h : Leans ops R F o a w) (t : Tmp) (hF : F t) (hc : (o.looksAt ops).contains t = true) {r : RelO} (hr : R t = some r) {v : Value} (hv : a.eval (.tmp t) = v) : r.rel v w := by
  subst hv
  exact h t hF (by simpa using hc) r hr
theorem Knows.get {w : World} (h : Knows R F a w) (t : Tmp) (hF : F t) {r : RelO} (hr : R t = some r) {v : Value} (hv : a.eval (.tmp t) = v) : r.rel v w := by
  subst hv
  exact (h.1 t hF r hr).1
theorem Knows.ne {w : World} (h : Knows R F a w) (s t : Tmp) (hs : F s) (ht : F t) (hne : s ≠ t) {r q : RelO} (hr : R s = some r) (hq : R t = some q) (ho : r.own = true) (hp : q.own = true) {u v : Value} (hu : a.eval (.tmp s) = u) (hv : a.eval (.tmp t) = v) : apartV u v := by
  subst hu hv
  exact h.2 s t hs ht hne r q hr hq ho hp
end

/-- The table of relations. -/
def relTab : List (Nat × RelO) → Tmp → Option RelO
  | [], _ => none
  | (t, r) :: l, s => match Nat.beq s t with
    | true => some r
    | false => relTab l s
end Go.Proofs.YtmhloapjadhifaaGreatDoor.Own

namespace Go.Proofs.YtmhloapjadhifaaGreatDoor.Own
set_option linter.unusedVariables false
set_option linter.unusedSimpArgs false
open Go Go.RowKit

/-- A relation; its value's block is nobody's business. -/
def rA (r : Value → World → Prop) : RelO := ⟨r, false⟩
/-- A relation; the value's block is made here. -/
def rO (r : Value → World → Prop) : RelO := ⟨r, true⟩
def isVal (x : Value) : Value → World → Prop := fun v _ => v = x
theorem isVal_up (x : Value) : GoesUp (isVal x) := fun _ _ _ _ h => h
theorem stableO_nil (C : World → Prop) : Stable C Grows (relTab []) := ⟨fun _ _ h => Below.size h, fun s r h => by cases h⟩
theorem stableO_cons {C : World → Prop} {t : Nat} {r : RelO} {l : List (Nat × RelO)} (hr : GoesUp r.rel) (h : Stable C Grows (relTab l)) : Stable C Grows (relTab ((t, r) :: l)) := by
  refine ⟨h.1, fun s r' hs => ?_⟩
  unfold relTab at hs
  split at hs
  · injection hs with hs
    subst hs
    exact fun v w w' _ _ hg hv => hr v w w' hg hv
  · exact h.2 s r' hs

/-- A callee's contract, in the walk. -/
theorem callA {P : Program} {f : FuncId} {args : Array Value} {W w : World} {r : Value → World → Prop} (hC : Ext W w) (h : Calls P f args w fun e w' => ∃ u, e = .returned u ∧ r u w' ∧ Below w.heap.size w w') :
    Calls P f args w fun e w'' => ∃ u, e = .returned u ∧ Ext W w'' ∧ Grows w w'' ∧ relR (rA r) w u w'' :=
  h.mono fun _ _ ⟨u, he, hr, hb⟩ => ⟨u, he, hC.grown hb, hb, hr, fun h => by cases h⟩
/-- A row of one element in a block of its own, with these cells. -/
def isBlk (cs : Array Value) (t : TypeId) : Value → World → Prop := fun v w => ∃ nb : Nat, v = .slice (some ⟨nb, 0, none⟩) 1 1 ∧ w.heap[nb]? = some (.cells cs t (0, 0))
theorem isBlk_up (cs : Array Value) (t : TypeId) : GoesUp (isBlk cs t) := fun _ _ _ hg ⟨nb, h1, h2⟩ => ⟨nb, h1, blk_kept2 h2 hg⟩
theorem blkA {W w : World} (hC : Ext W w) (cs : Array Value) (t : TypeId) : Ext W (w.alloc (.cells cs t)) ∧ Grows w (w.alloc (.cells cs t)) ∧ relR (rA (isBlk cs t)) w (.slice (some ⟨w.heap.size, 0, none⟩) 1 1) (w.alloc (.cells cs t)) :=
  ⟨hC.grown (bgrow w _), bgrow w _, ⟨_, rfl, heap_alloc_new _ _⟩, fun h => by cases h⟩
end Go.Proofs.YtmhloapjadhifaaGreatDoor.Own
