/- A formula that came in, as the walks are told of it. -/
import Derived.Test.YtpiiadmjddikfaaDoorForms
import Derived.Test.YtpiiadmjddikfaaDoorFrame
import Derived.ChangeSame
import Derived.Lib.SmallJoins
namespace Go.Proofs.YtpiiadmjddikfaaDoor
set_option linter.unusedVariables false
set_option linter.unusedSimpArgs false
open Go.ChangeShapes Go.WideShapes Go.ChangeAt Go.RowKit Go.Joins

theorem three_of_len {α : Type} : ∀ (cs : List α), cs.length = 3 → ∃ a b c, cs = [a, b, c]
  | [a, b, c], _ => ⟨a, b, c, rfl⟩
theorem formCellsF : Tryd.prog.cellsOf 24 = 3 := by kernel_rfl

theorem trod_struct3F {H : Type} {enc : TypeId × Value → H} {P : Program} {w : World} {base : Nat} {spare : Nat → Bool} {held : Bool} {t : TypeId} {f0 f1 f2 : Field} {fuel : Nat} {cs : List Value} {x : DataW H × List MemPlace} (ht : P.underlying t = some (.struct #[f0, f1, f2])) (h : DataW.trod enc P w base spare held fuel t cs = some x) :
    ∃ y0 y1 y2 n, fuel = n + 1 ∧ cs.length = P.cellsOf t ∧ DataW.trod enc P w base spare held n f0.type ((cs.drop f0.offset).take (P.cellsOf f0.type)) = some y0 ∧
      DataW.trod enc P w base spare held n f1.type ((cs.drop f1.offset).take (P.cellsOf f1.type)) = some y1 ∧ DataW.trod enc P w base spare held n f2.type ((cs.drop f2.offset).take (P.cellsOf f2.type)) = some y2 := by
  obtain ⟨xs, n, hn, -, hl, hlen, hf⟩ := DataW.trod_struct ht h
  match xs, hlen with
  | [y0, y1, y2], _ => exact ⟨y0, y1, y2, n, hn, hl, by simpa using hf 0 f0 rfl, by simpa using hf 1 f1 rfl, by simpa using hf 2 f2 rfl⟩

theorem form_trod {H : Type} {enc : TypeId × Value → H} {w : World} {base : Nat} {spare : Nat → Bool} {held : Bool} : ∀ (m fuel : Nat), fuel ≤ m → ∀ (cs : List Value) (y : DataW H × List MemPlace),
    DataW.trod enc Tryd.prog w base spare held fuel 24 cs = some y → ∃ (t : Tree) (a : Option Addr) (cap : Nat), cs = [.int .i64 t.op, .string t.name, .slice a t.args.length cap] ∧ FormAt w none (.agg #[.int .i64 t.op, .string t.name, .slice a t.args.length cap]) t := by
  intro m
  induction m with
  | zero =>
    intro fuel hm cs y h
    obtain ⟨y0, y1, y2, n, hn, -⟩ := trod_struct3F Tryd.underlying24 h
    omega
  | succ m ih =>
    intro fuel hm cs y h
    obtain ⟨y0, y1, y2, n, hn, hl, h0, h1, h2⟩ := trod_struct3F Tryd.underlying24 h
    obtain ⟨c0, c1, c2, rfl⟩ := three_of_len cs (hl.trans formCellsF)
    have e0 : ([c0, c1, c2].drop 0).take (Tryd.prog.cellsOf 3) = [c0] := by rw [show Tryd.prog.cellsOf 3 = 1 by kernel_rfl]; rfl
    have e1 : ([c0, c1, c2].drop 1).take (Tryd.prog.cellsOf 9) = [c1] := by rw [show Tryd.prog.cellsOf 9 = 1 by kernel_rfl]; rfl
    have e2 : ([c0, c1, c2].drop 2).take (Tryd.prog.cellsOf 22) = [c2] := by rw [show Tryd.prog.cellsOf 22 = 1 by kernel_rfl]; rfl
    have h0' : DataW.trod enc Tryd.prog w base spare held n 3 (([c0, c1, c2].drop 0).take (Tryd.prog.cellsOf 3)) = some y0 := h0
    have h1' : DataW.trod enc Tryd.prog w base spare held n 9 (([c0, c1, c2].drop 1).take (Tryd.prog.cellsOf 9)) = some y1 := h1
    have h2' : DataW.trod enc Tryd.prog w base spare held n 22 (([c0, c1, c2].drop 2).take (Tryd.prog.cellsOf 22)) = some y2 := h2
    rw [e0] at h0'
    rw [e1] at h1'
    rw [e2] at h2'
    obtain ⟨o, ho, -, hwf⟩ := DataW.trod_int Tryd.underlying3 h0'
    obtain ⟨s, hs, -, hsz⟩ := DataW.trod_string Tryd.underlying9 h1'
    simp only [List.cons.injEq, and_true] at ho hs
    subst ho hs
    have hop : I64 o := by simp only [Lit.wf, Bool.and_eq_true, decide_eq_true_eq] at hwf; exact hwf
    rcases DataW.trod_slice Tryd.underlying22 h2' with ⟨hcs, -⟩ | ⟨x, l, c, elems, rest, n2, hn2, hcs, -, hb, hlc, hmx, hlen, hel, -, -⟩
    · simp only [List.cons.injEq, and_true] at hcs
      subst hcs
      exact ⟨.node o s [], none, 0, rfl, FormIn.mk (FormsIn.nil none) rfl hop hsz (Nat.le_refl _) (Nat.zero_le _)⟩
    · simp only [List.cons.injEq, and_true] at hcs
      subst hcs
      obtain ⟨b, off, sp⟩ := x
      have key : ∀ i, i < l → ∃ (t : Tree) (a : Option Addr) (cap : Nat), w.cell? ((⟨b, off, sp⟩ : Addr).add (i * 3 + 0)) = some (.int .i64 t.op) ∧ w.cell? ((⟨b, off, sp⟩ : Addr).add (i * 3 + 1)) = some (.string t.name) ∧ w.cell? ((⟨b, off, sp⟩ : Addr).add (i * 3 + 2)) = some (.slice a t.args.length cap) ∧
          FormAt w none (.agg #[.int .i64 t.op, .string t.name, .slice a t.args.length cap]) t := fun i hi => by
        have h3 := hel i hi
        rw [formCellsF, List.getElem?_eq_getElem (by omega)] at h3
        obtain ⟨cs', hc, ht⟩ := Option.bind_eq_some_iff.1 h3
        obtain ⟨-, hcl, hat⟩ := World.cells?_some hc
        obtain ⟨t, a, cap, rfl, hF⟩ := ih n2 (by omega) cs' _ ht
        have add_add : ∀ (a : Addr) (i j : Nat), (a.add i).add j = a.add (i + j) := fun a i j => by
          unfold Addr.add
          repeat' split
          all_goals first | (simp; omega) | (exfalso; omega) | simp_all
        have g0 := hat 0 (by omega)
        have g1 := hat 1 (by omega)
        have g2 := hat 2 (by omega)
        rw [add_add] at g0 g1 g2
        exact ⟨t, a, cap, g0, g1, g2, hF⟩
      have hsp : 0 < l → sp = none := fun hl0 => by
        obtain ⟨t, a, cap, g0, -⟩ := key 0 hl0
        have e : (⟨b, off, sp⟩ : Addr).add (0 * 3 + 0) = ⟨b, off, sp⟩ := by simp [Addr.add]
        rw [e] at g0
        unfold World.cell? at g0
        cases sp with
        | none => rfl
        | some q =>
          exfalso
          simp only [Option.isSome_some, if_true] at g0
          split at g0 <;> cases g0
      have key2 : ∀ i, ∃ q : Tree × Option Addr × Nat, i < l → w.cell? ⟨b, off + i * 3, none⟩ = some (.int .i64 q.1.op) ∧ w.cell? ⟨b, off + i * 3 + 1, none⟩ = some (.string q.1.name) ∧ w.cell? ⟨b, off + i * 3 + 2, none⟩ = some (.slice q.2.1 q.1.args.length q.2.2) ∧
          FormAt w none (.agg #[.int .i64 q.1.op, .string q.1.name, .slice q.2.1 q.1.args.length q.2.2]) q.1 := fun i => by
        by_cases hi : i < l
        · obtain ⟨t, a, cap, g0, g1, g2, hF⟩ := key i hi
          obtain rfl := hsp (by omega)
          rw [add_plain] at g0 g1 g2
          exact ⟨⟨t, a, cap⟩, fun _ => ⟨g0, g1, g2, hF⟩⟩
        · exact ⟨default, fun h => absurd h hi⟩
      have hlen' : ((List.range l).map fun i => (Classical.choose (key2 i)).1).length = l := by simp
      have hget : ∀ i (hi : i < ((List.range l).map fun i => (Classical.choose (key2 i)).1).length), ((List.range l).map fun i => (Classical.choose (key2 i)).1)[i] = (Classical.choose (key2 i)).1 := fun i hi => by simp
      have hFS : FormsAt w none (some ⟨b, off, sp⟩) ((List.range l).map fun i => (Classical.choose (key2 i)).1) := by
        refine ⟨b, off, fun h0 => ⟨by rw [hsp (by rw [hlen'] at h0; exact h0)], by simp⟩, fun i hi => ?_⟩
        have hi' : i < l := by rw [hlen'] at hi; exact hi
        obtain ⟨g0, g1, g2, hF⟩ := Classical.choose_spec (key2 i) hi'
        rw [hget i hi]
        exact ⟨_, _, g0, g1, g2, hF⟩
      refine ⟨.node o s ((List.range l).map fun i => (Classical.choose (key2 i)).1), some ⟨b, off, sp⟩, c, ?_, ?_⟩
      · simp only [Tree.op_node, Tree.name_node, Tree.args_node, hlen']
      · simp only [Tree.op_node, Tree.name_node, Tree.args_node]
        exact FormIn.mk hFS rfl hop hsz (by rw [hlen']; exact hlc) hmx

set_option maxRecDepth 100000 in
theorem form_open {H : Type} {enc : TypeId × Value → H} {w : World} {r : Reach} {b0 base : Nat} {spare : Nat → Bool} {held : Bool} {v : Value} {d : DataW H} {p : List MemPlace}
    (hv : Value.okWide Tryd.prog w r b0 24 v) (h : DataW.Trod enc Tryd.prog w base spare held 24 v d p) : ∃ t : Tree, FormAt w none v t := by
  obtain ⟨fuel, hf⟩ := h
  obtain ⟨t, a, cap, hcs, hF⟩ := form_trod fuel fuel (Nat.le_refl _) _ _ hf
  simp only [Value.okWide, Tryd.underlying24] at hv
  obtain ⟨cs, rfl, -, -⟩ := hv
  refine ⟨t, ?_⟩
  have e : cs = #[.int .i64 t.op, .string t.name, .slice a t.args.length cap] := by
    obtain ⟨l⟩ := cs
    simpa [Value.cells] using hcs
  rw [e]
  exact hF
end Go.Proofs.YtpiiadmjddikfaaDoor
