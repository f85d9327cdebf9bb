/- A rule base that came in, as the walks are told of it. -/
import Derived.Test.YtiffcdhiejmbdaaGreatDoorZ1C
import Derived.Test.YtiffcdhiejmbdaaGreatDoorFrame
import Derived.ChangeSame
import Derived.Lib.SmallJoins

namespace Go.Proofs.YtiffcdhiejmbdaaGreatDoor
set_option linter.unusedVariables false
set_option linter.unusedSimpArgs false
open Go.ChangeShapes Go.WideShapes Go.ChangeAt Go.RowKit Go.Joins

section
variable {H : Type} {enc : TypeId × Value → H} {w : World} {base : Nat} {spare : Nat → Bool} {held : Bool}
theorem field_trod {P : Program} {t : TypeId} {fs : Array Field} {fuel : Nat} {cs : List Value} {x : DataW H × List MemPlace}
    (ht : P.underlying t = some (.struct fs)) (h : DataW.trod enc P w base spare held fuel t cs = some x) :
    ∃ n, cs.length = P.cellsOf t ∧ ∀ (i : Nat) (f : Field), fs[i]? = some f → ∃ y, DataW.trod enc P w base spare held n f.type ((cs.drop f.offset).take (P.cellsOf f.type)) = some y := by
  obtain ⟨xs, n, -, -, hl, hlen, hf⟩ := DataW.trod_struct ht h
  refine ⟨n, hl, fun i f hi => ?_⟩
  have hi' : i < xs.length := by rw [hlen]; exact (Array.getElem?_eq_some_iff.1 hi).1
  exact ⟨xs[i], by rw [hf i f hi, List.getElem?_eq_getElem hi']⟩
theorem list2 {α : Type} : ∀ cs : List α, cs.length = 2 → ∃ a b, cs = [a, b]
  | [a, b], _ => ⟨a, b, rfl⟩
theorem list3 {α : Type} : ∀ cs : List α, cs.length = 3 → ∃ a b c, cs = [a, b, c]
  | [a, b, c], _ => ⟨a, b, c, rfl⟩
theorem list4 {α : Type} : ∀ cs : List α, cs.length = 4 → ∃ a b c d, cs = [a, b, c, d]
  | [a, b, c, d], _ => ⟨a, b, c, d, rfl⟩
theorem list5 {α : Type} : ∀ cs : List α, cs.length = 5 → ∃ a b c d e, cs = [a, b, c, d, e]
  | [a, b, c, d, e], _ => ⟨a, b, c, d, e, rfl⟩
theorem list6 {α : Type} : ∀ cs : List α, cs.length = 6 → ∃ a b c d e f, cs = [a, b, c, d, e, f]
  | [a, b, c, d, e, f], _ => ⟨a, b, c, d, e, f, rfl⟩
theorem cBool : Tryz.prog.cellsOf 4 = 1 := by kernel_rfl
theorem cStr : Tryz.prog.cellsOf 9 = 1 := by kernel_rfl
theorem cInt : Tryz.prog.cellsOf 3 = 1 := by kernel_rfl
theorem cLit : Tryz.prog.cellsOf 28 = 2 := by kernel_rfl
theorem cLits : Tryz.prog.cellsOf 56 = 1 := by kernel_rfl
theorem cPrem : Tryz.prog.cellsOf 78 = 5 := by kernel_rfl
theorem cRul : Tryz.prog.cellsOf 72 = 6 := by kernel_rfl
theorem cProm : Tryz.prog.cellsOf 80 = 4 := by kernel_rfl
theorem cPrems : Tryz.prog.cellsOf 22 = 1 := by kernel_rfl
theorem cRuls : Tryz.prog.cellsOf 23 = 1 := by kernel_rfl
theorem cProms : Tryz.prog.cellsOf 24 = 1 := by kernel_rfl
theorem cBase : Tryz.prog.cellsOf 26 = 3 := by kernel_rfl

theorem bool_trod {n : Nat} {c : Value} {y : DataW H × List MemPlace} (h : DataW.trod enc Tryz.prog w base spare held n 4 [c] = some y) : ∃ g : Bool, c = .bool g := by
  obtain ⟨g, hg, -⟩ := DataW.trod_bool Tryz.underlying4 h
  simp only [List.cons.injEq, and_true] at hg
  exact ⟨g, hg⟩
theorem str_trod {n : Nat} {c : Value} {y : DataW H × List MemPlace} (h : DataW.trod enc Tryz.prog w base spare held n 9 [c] = some y) : ∃ s : ByteArray, c = .string s ∧ s.size ≤ maxLen := by
  obtain ⟨g, hg, -, hs⟩ := DataW.trod_string Tryz.underlying9 h
  simp only [List.cons.injEq, and_true] at hg
  exact ⟨g, hg, hs⟩
theorem int_trod {n : Nat} {c : Value} {y : DataW H × List MemPlace} (h : DataW.trod enc Tryz.prog w base spare held n 3 [c] = some y) : ∃ z : Int, c = .int .i64 z ∧ I64 z := by
  obtain ⟨g, hg, -, hs⟩ := DataW.trod_int Tryz.underlying3 h
  simp only [List.cons.injEq, and_true] at hg
  exact ⟨g, hg, by simp only [Lit.wf, Bool.and_eq_true, decide_eq_true_eq] at hs; exact hs⟩
theorem lit_trod {n : Nat} {cs : List Value} {y : DataW H × List MemPlace} (h : DataW.trod enc Tryz.prog w base spare held n 28 cs = some y) : ∃ x : Lt, cs = [.bool x.neg, .string x.name] ∧ x.name.size ≤ maxLen := by
  obtain ⟨m, hl, hf⟩ := field_trod Tryz.underlying28 h
  obtain ⟨c0, c1, rfl⟩ := list2 cs (hl.trans cLit)
  obtain ⟨y0, h0⟩ := hf 0 _ rfl
  obtain ⟨y1, h1⟩ := hf 1 _ rfl
  replace h0 : DataW.trod enc Tryz.prog w base spare held m 4 (([c0, c1].drop 0).take (Tryz.prog.cellsOf 4)) = some y0 := h0
  replace h1 : DataW.trod enc Tryz.prog w base spare held m 9 (([c0, c1].drop 1).take (Tryz.prog.cellsOf 9)) = some y1 := h1
  rw [cBool] at h0
  rw [cStr] at h1
  obtain ⟨g, rfl⟩ := bool_trod h0
  obtain ⟨s, rfl, hs⟩ := str_trod h1
  exact ⟨⟨g, s⟩, rfl, hs⟩

theorem add_add5 (a : Addr) (i j : Nat) : (a.add i).add j = a.add (i + j) := by
  unfold Addr.add
  repeat' split
  all_goals first | (simp; omega) | (exfalso; omega) | simp_all
theorem lt_of_cell5 {a : Addr} {v : Value} (hc : w.cell? a = some v) : a.block < w.heap.size := by
  rcases Nat.lt_or_ge a.block w.heap.size with h' | h'
  · exact h'
  · simp [World.cell?, Array.getElem?_eq_none h'] at hc
theorem no_spot {b o q : Nat} {v : Value} (h : w.cell? ⟨b, o, some q⟩ = some v) : False := by
  unfold World.cell? at h
  simp only [Option.isSome_some, if_true] at h
  split at h <;> cases h
/-- A row that came in. -/
theorem rows_open {α : Type} [Inhabited α] {k : Nat} {At : World → Nat → Nat → α → Prop} {Ok : α → Prop} {T e : TypeId} (hT : Tryz.prog.underlying T = some (.slice e)) (hk : Tryz.prog.cellsOf e = k) (hk0 : 0 < k)
    (elem : ∀ (n : Nat) (cs : List Value) (y : DataW H × List MemPlace), DataW.trod enc Tryz.prog w base spare held n e cs = some y → ∃ x : α, Ok x ∧ ∀ b o, (∀ j v, cs[j]? = some v → w.cell? ⟨b, o + j, none⟩ = some v) → At w b o x)
    {fuel : Nat} {v : Value} {y : DataW H × List MemPlace} (h : DataW.trod enc Tryz.prog w base spare held fuel T [v] = some y) :
    ∃ xs : List α, (∀ x ∈ xs, Ok x) ∧ (((∃ (a : Option Addr) (c : Nat), v = .slice a 0 c ∧ c ≤ maxLen) ∧ xs = []) ∨
      ∃ (b off cap : Nat), v = .slice (some ⟨b, off, none⟩) xs.length cap ∧ xs.length ≤ cap ∧ cap ≤ maxLen ∧ b < w.heap.size ∧ ∀ i (h : i < xs.length), At w b (off + i * k) xs[i]) := by
  rcases DataW.trod_slice hT h with ⟨hcs, -⟩ | ⟨x, l, c, elems, rest, n, -, hcs, -, hb, hl, hm, hlen, hel, -, -⟩
  · simp only [List.cons.injEq, and_true] at hcs
    exact ⟨[], (fun x hx => by cases hx), .inl ⟨⟨none, 0, hcs, by unfold maxLen; omega⟩, rfl⟩⟩
  · simp only [List.cons.injEq, and_true] at hcs
    by_cases hl0 : l = 0
    · subst hl0
      exact ⟨[], (fun x hx => by cases hx), .inl ⟨⟨_, c, hcs, hm⟩, rfl⟩⟩
    · obtain ⟨b, off, sp⟩ := x
      have key : ∀ i, i < l → ∃ x : α, Ok x ∧ sp = none ∧ b < w.heap.size ∧ At w b (off + i * k) x := fun i hi => by
        have h1 := hel i hi
        rw [hk, List.getElem?_eq_getElem (by omega)] at h1
        obtain ⟨cs, hc, ht⟩ := Option.bind_eq_some_iff.1 h1
        obtain ⟨-, hcl, hat⟩ := World.cells?_some hc
        obtain ⟨x, hx, hA⟩ := elem n cs _ ht
        have h0 := (hat 0 (by omega)).trans (List.getElem?_eq_getElem (by omega : 0 < cs.length))
        rw [add_add5] at h0
        have hsp : sp = none := by
          cases hq : sp with
          | none => rfl
          | some q =>
            exfalso
            subst hq
            by_cases hz : i * k + 0 = 0
            · rw [hz] at h0
              have e : (⟨b, off, some q⟩ : Addr).add 0 = ⟨b, off, some q⟩ := by simp [Addr.add]
              rw [e] at h0
              exact no_spot h0
            · have h00 := hel 0 (by omega)
              rw [hk, List.getElem?_eq_getElem (by omega)] at h00
              obtain ⟨cs', hc', -⟩ := Option.bind_eq_some_iff.1 h00
              obtain ⟨-, hcl', hat'⟩ := World.cells?_some hc'
              have h2 := (hat' 0 (by omega)).trans (List.getElem?_eq_getElem (by omega : 0 < cs'.length))
              rw [add_add5] at h2
              have e : (⟨b, off, some q⟩ : Addr).add (0 * k + 0) = ⟨b, off, some q⟩ := by simp [Addr.add]
              rw [e] at h2
              exact no_spot h2
        subst hsp
        have hb' : b < w.heap.size := by
          rw [add_plain] at h0
          exact lt_of_cell5 (a := ⟨b, _, none⟩) h0
        refine ⟨x, hx, rfl, hb', hA b (off + i * k) fun j v hj => ?_⟩
        have hj' : j < k := by rw [← hcl]; exact (List.getElem?_eq_some_iff.1 hj).1
        have h3 := hat j hj'
        rw [add_add5, add_plain] at h3
        rw [Nat.add_assoc, h3]
        exact hj
      have hsp : sp = none := by obtain ⟨x, -, h, -⟩ := key 0 (by omega); exact h
      have hb' : b < w.heap.size := by obtain ⟨x, -, -, h, -⟩ := key 0 (by omega); exact h
      subst hsp
      have key2 : ∀ i, ∃ x : α, i < l → Ok x ∧ At w b (off + i * k) x := fun i => by
        by_cases hi : i < l
        · obtain ⟨x, hx, -, -, hA⟩ := key i hi
          exact ⟨x, fun _ => ⟨hx, hA⟩⟩
        · exact ⟨default, fun h => absurd h hi⟩
      have hlen' : ((List.range l).map fun i => Classical.choose (key2 i)).length = l := by simp
      refine ⟨(List.range l).map fun i => Classical.choose (key2 i), fun x hx => ?_, .inr ⟨b, off, c, by rw [hlen']; exact hcs, by rw [hlen']; exact hl, hm, hb', fun i hi => ?_⟩⟩
      · obtain ⟨i, hi, rfl⟩ := List.mem_map.1 hx
        exact (Classical.choose_spec (key2 i) (by simpa using hi)).1
      · rw [hlen'] at hi
        have e : ((List.range l).map fun i => Classical.choose (key2 i))[i]'(by rw [hlen']; exact hi) = Classical.choose (key2 i) := by simp
        rw [e]
        exact (Classical.choose_spec (key2 i) hi).2

instance : Inhabited Lt := ⟨⟨false, ⟨#[]⟩⟩⟩
instance : Inhabited Pm := ⟨⟨default, 0, 0, ⟨#[]⟩⟩⟩
instance : Inhabited Ru := ⟨⟨⟨#[]⟩, false, 0, [], default⟩⟩
instance : Inhabited Pr := ⟨⟨⟨#[]⟩, 0, default⟩⟩

theorem body_open {fuel : Nat} {v : Value} {y : DataW H × List MemPlace} (h : DataW.trod enc Tryz.prog w base spare held fuel 56 [v] = some y) : ∃ xs : List Lt, BodyAt w v xs ∧ ∀ x ∈ xs, x.name.size ≤ maxLen := by
  obtain ⟨xs, h1, h2⟩ := rows_open (k := 2) (At := fun w b o x => w.cell? ⟨b, o, none⟩ = some (.bool (x : Lt).neg) ∧ w.cell? ⟨b, o + 1, none⟩ = some (.string x.name)) (Ok := fun x => x.name.size ≤ maxLen) Tryz.underlying56 cLit (by decide)
    (fun n cs y hy => by
      obtain ⟨x, rfl, hx⟩ := lit_trod hy
      exact ⟨x, hx, fun b o hc => ⟨hc 0 _ rfl, hc 1 _ rfl⟩⟩) h
  exact ⟨xs, h2, h1⟩
theorem prem_trod {n : Nat} {cs : List Value} {y : DataW H × List MemPlace} (h : DataW.trod enc Tryz.prog w base spare held n 78 cs = some y) : ∃ p : Pm, PmOk p ∧ cs = [.bool p.lit.neg, .string p.lit.name, .int .i64 p.kind, .int .i64 p.rank, .string p.src] := by
  obtain ⟨m, hl, hf⟩ := field_trod Tryz.underlying78 h
  obtain ⟨c0, c1, c2, c3, c4, rfl⟩ := list5 cs (hl.trans cPrem)
  obtain ⟨y0, h0⟩ := hf 0 _ rfl
  obtain ⟨y1, h1⟩ := hf 1 _ rfl
  obtain ⟨y2, h2⟩ := hf 2 _ rfl
  obtain ⟨y3, h3⟩ := hf 3 _ rfl
  replace h0 : DataW.trod enc Tryz.prog w base spare held m 28 (([c0, c1, c2, c3, c4].drop 0).take (Tryz.prog.cellsOf 28)) = some y0 := h0
  replace h1 : DataW.trod enc Tryz.prog w base spare held m 3 (([c0, c1, c2, c3, c4].drop 2).take (Tryz.prog.cellsOf 3)) = some y1 := h1
  replace h2 : DataW.trod enc Tryz.prog w base spare held m 3 (([c0, c1, c2, c3, c4].drop 3).take (Tryz.prog.cellsOf 3)) = some y2 := h2
  replace h3 : DataW.trod enc Tryz.prog w base spare held m 9 (([c0, c1, c2, c3, c4].drop 4).take (Tryz.prog.cellsOf 9)) = some y3 := h3
  rw [cLit] at h0
  rw [cInt] at h1 h2
  rw [cStr] at h3
  obtain ⟨x, hx, hxs⟩ := lit_trod h0
  simp only [List.drop_zero, List.take_succ_cons, List.take_zero, List.cons.injEq, and_true] at hx
  obtain ⟨rfl, rfl⟩ := hx
  obtain ⟨z1, rfl, hz1⟩ := int_trod h1
  obtain ⟨z2, rfl, hz2⟩ := int_trod h2
  obtain ⟨s, rfl, hs⟩ := str_trod h3
  exact ⟨⟨x, z1, z2, s⟩, ⟨hxs, hs, hz1, hz2⟩, rfl⟩
theorem rule_trod {n : Nat} {cs : List Value} {y : DataW H × List MemPlace} (h : DataW.trod enc Tryz.prog w base spare held n 72 cs = some y) : ∃ (p : Ru) (bv : Value), RuOk p ∧ BodyAt w bv p.body ∧ cs = [.string p.name, .bool p.strict, .int .i64 p.rank, bv, .bool p.head.neg, .string p.head.name] := by
  obtain ⟨m, hl, hf⟩ := field_trod Tryz.underlying72 h
  obtain ⟨c0, c1, c2, c3, c4, c5, rfl⟩ := list6 cs (hl.trans cRul)
  obtain ⟨y0, h0⟩ := hf 0 _ rfl
  obtain ⟨y1, h1⟩ := hf 1 _ rfl
  obtain ⟨y2, h2⟩ := hf 2 _ rfl
  obtain ⟨y3, h3⟩ := hf 3 _ rfl
  obtain ⟨y4, h4⟩ := hf 4 _ rfl
  replace h0 : DataW.trod enc Tryz.prog w base spare held m 9 (([c0, c1, c2, c3, c4, c5].drop 0).take (Tryz.prog.cellsOf 9)) = some y0 := h0
  replace h1 : DataW.trod enc Tryz.prog w base spare held m 4 (([c0, c1, c2, c3, c4, c5].drop 1).take (Tryz.prog.cellsOf 4)) = some y1 := h1
  replace h2 : DataW.trod enc Tryz.prog w base spare held m 3 (([c0, c1, c2, c3, c4, c5].drop 2).take (Tryz.prog.cellsOf 3)) = some y2 := h2
  replace h3 : DataW.trod enc Tryz.prog w base spare held m 56 (([c0, c1, c2, c3, c4, c5].drop 3).take (Tryz.prog.cellsOf 56)) = some y3 := h3
  replace h4 : DataW.trod enc Tryz.prog w base spare held m 28 (([c0, c1, c2, c3, c4, c5].drop 4).take (Tryz.prog.cellsOf 28)) = some y4 := h4
  rw [cStr] at h0
  rw [cBool] at h1
  rw [cInt] at h2
  rw [cLits] at h3
  rw [cLit] at h4
  obtain ⟨s, rfl, hs⟩ := str_trod h0
  obtain ⟨g, rfl⟩ := bool_trod h1
  obtain ⟨z, rfl, hz⟩ := int_trod h2
  obtain ⟨xs, hb, hxs⟩ := body_open (v := c3) h3
  obtain ⟨x, hx, hx1⟩ := lit_trod h4
  simp only [List.drop_succ_cons, List.drop_zero, List.take_succ_cons, List.take_zero, List.cons.injEq, and_true] at hx
  obtain ⟨rfl, rfl⟩ := hx
  exact ⟨⟨s, g, z, xs, x⟩, c3, ⟨hs, hz, hx1, hxs⟩, hb, rfl⟩
theorem prom_trod {n : Nat} {cs : List Value} {y : DataW H × List MemPlace} (h : DataW.trod enc Tryz.prog w base spare held n 80 cs = some y) : ∃ p : Pr, PrOk p ∧ cs = [.string p.rule, .int .i64 p.rank, .bool p.lit.neg, .string p.lit.name] := by
  obtain ⟨m, hl, hf⟩ := field_trod Tryz.underlying80 h
  obtain ⟨c0, c1, c2, c3, rfl⟩ := list4 cs (hl.trans cProm)
  obtain ⟨y0, h0⟩ := hf 0 _ rfl
  obtain ⟨y1, h1⟩ := hf 1 _ rfl
  obtain ⟨y2, h2⟩ := hf 2 _ rfl
  replace h0 : DataW.trod enc Tryz.prog w base spare held m 9 (([c0, c1, c2, c3].drop 0).take (Tryz.prog.cellsOf 9)) = some y0 := h0
  replace h1 : DataW.trod enc Tryz.prog w base spare held m 3 (([c0, c1, c2, c3].drop 1).take (Tryz.prog.cellsOf 3)) = some y1 := h1
  replace h2 : DataW.trod enc Tryz.prog w base spare held m 28 (([c0, c1, c2, c3].drop 2).take (Tryz.prog.cellsOf 28)) = some y2 := h2
  rw [cStr] at h0
  rw [cInt] at h1
  rw [cLit] at h2
  obtain ⟨s, rfl, hs⟩ := str_trod h0
  obtain ⟨z, rfl, hz⟩ := int_trod h1
  obtain ⟨x, hx, hx1⟩ := lit_trod h2
  simp only [List.drop_succ_cons, List.drop_zero, List.take_succ_cons, List.take_zero, List.cons.injEq, and_true] at hx
  obtain ⟨rfl, rfl⟩ := hx
  exact ⟨⟨s, z, x⟩, ⟨hs, hz, hx1⟩, rfl⟩
end

set_option maxRecDepth 100000 in
theorem base_open {H : Type} {enc : TypeId × Value → H} {w : World} {r : Reach} {b0 base : Nat} {spare : Nat → Bool} {held : Bool} {v : Value} {d : DataW H} {p : List MemPlace}
    (hv : Value.okWide Tryz.prog w r b0 26 v) (h : DataW.Trod enc Tryz.prog w base spare held 26 v d p) : ∃ b : Bs, BaseAt w v b ∧ BsOk b := by
  obtain ⟨fuel, hf⟩ := h
  simp only [Value.okWide, Tryz.underlying26] at hv
  obtain ⟨cs, rfl, -, -⟩ := hv
  obtain ⟨m, hl, hg⟩ := field_trod Tryz.underlying26 hf
  obtain ⟨l⟩ := cs
  simp only [Value.cells] at hl hg
  obtain ⟨c0, c1, c2, rfl⟩ := list3 l (hl.trans cBase)
  obtain ⟨y0, h0⟩ := hg 0 _ rfl
  obtain ⟨y1, h1⟩ := hg 1 _ rfl
  obtain ⟨y2, h2⟩ := hg 2 _ rfl
  replace h0 : DataW.trod enc Tryz.prog w base spare held m 22 (([c0, c1, c2].drop 0).take (Tryz.prog.cellsOf 22)) = some y0 := h0
  replace h1 : DataW.trod enc Tryz.prog w base spare held m 23 (([c0, c1, c2].drop 1).take (Tryz.prog.cellsOf 23)) = some y1 := h1
  replace h2 : DataW.trod enc Tryz.prog w base spare held m 24 (([c0, c1, c2].drop 2).take (Tryz.prog.cellsOf 24)) = some y2 := h2
  rw [cPrems] at h0
  rw [cRuls] at h1
  rw [cProms] at h2
  obtain ⟨ps, o1, a1⟩ := rows_open (k := 5) (At := PmAt) (Ok := PmOk) Tryz.underlying22 cPrem (by decide) (fun n cs y hy => by
    obtain ⟨p, hp, rfl⟩ := prem_trod hy
    exact ⟨p, hp, fun b o hc => ⟨hc 0 _ rfl, hc 1 _ rfl, hc 2 _ rfl, hc 3 _ rfl, hc 4 _ rfl⟩⟩) h0
  obtain ⟨rs, o2, a2⟩ := rows_open (k := 6) (At := RuAt) (Ok := RuOk) Tryz.underlying23 cRul (by decide) (fun n cs y hy => by
    obtain ⟨p, bv, hp, hb, rfl⟩ := rule_trod hy
    exact ⟨p, hp, fun b o hc => ⟨bv, hc 0 _ rfl, hc 1 _ rfl, hc 2 _ rfl, hc 3 _ rfl, hc 4 _ rfl, hc 5 _ rfl, hb⟩⟩) h1
  obtain ⟨qs, o3, a3⟩ := rows_open (k := 4) (At := PrAt) (Ok := PrOk) Tryz.underlying24 cProm (by decide) (fun n cs y hy => by
    obtain ⟨p, hp, rfl⟩ := prom_trod hy
    exact ⟨p, hp, fun b o hc => ⟨hc 0 _ rfl, hc 1 _ rfl, hc 2 _ rfl, hc 3 _ rfl⟩⟩) h2
  exact ⟨⟨ps, rs, qs⟩, ⟨c0, c1, c2, rfl, a1, a2, a3⟩, o1, o2, o3⟩
end Go.Proofs.YtiffcdhiejmbdaaGreatDoor
