/- append of a whole list of formulas to an empty one that was just built: the copy is the call's own, the formulas lie where they lay. -/
import Derived.Test.YtpiiadmjddikfaaDoorOwnF
import Derived.Deep.AppendLies
namespace Go.Proofs.YtpiiadmjddikfaaDoor
set_option linter.unusedVariables false
set_option linter.unusedSimpArgs false
open Go.RowKit

/-- A list of formulas in a row that the call owns, from block B on; the formulas lie in blocks of S. -/
def OwnG (w : World) (B : Nat) (S : Nat → Prop) (v : Value) (ts : List Tree) : Prop :=
  ∃ hs : List (Option Addr × Nat), hs.length = ts.length ∧ w.ownsRow B 24 3 v ts.length (flatF (hds ts hs)) ∧
    ∀ i (h : i < ts.length) (h' : i < hs.length), FormIn w S (ts[i].hd hs[i].1 hs[i].2).val ts[i]
theorem OwnG.go {w w' : World} {B : Nat} {S : Nat → Prop} {v : Value} {ts : List Tree} (h : OwnG w B S v ts) (hb : Below w.heap.size w w') : OwnG w' B S v ts := by
  obtain ⟨hs, h1, h2, h3⟩ := h
  exact ⟨hs, h1, World.ownsRow.kept h2 (only_of_below hb none) (by
    cases hv : v.ownBlock with
    | none => exact .inl rfl
    | some g => exact .inr (fun e => by cases e)), fun i hi hi' => (h3 i hi hi').go hb⟩

theorem OwnG.val {w : World} {B : Nat} {S : Nat → Prop} {v : Value} {ts : List Tree} (h : OwnG w B S v ts) : ∃ (a : Option Addr) (c : Nat), v = .slice a ts.length c := by
  obtain ⟨hs, h1, ho, -⟩ := h
  rcases ho.2 with ⟨rfl, e⟩ | ⟨g, cap, cur, rfl, -⟩
  · exact ⟨none, 0, by rw [e]⟩
  · exact ⟨_, _, rfl⟩
/-- The headers of a row. -/
theorem FormsIn.hs {w : World} {S : Nat → Prop} {a : Option Addr} {ts : List Tree} (h : FormsIn w S a ts) (h0 : 0 < ts.length) :
    ∃ (b off : Nat) (hs : List (Option Addr × Nat)), a = some ⟨b, off, none⟩ ∧ hs.length = ts.length ∧ (∀ j u, (flatF (hds ts hs))[j]? = some u → w.cell? ⟨b, off + j, none⟩ = some u) ∧
      ∀ i (h : i < ts.length) (h' : i < hs.length), FormIn w S (ts[i].hd hs[i].1 hs[i].2).val ts[i] := by
  obtain ⟨b, off, ha, hc⟩ := h
  have key : ∃ hs : List (Option Addr × Nat), hs.length = ts.length ∧ ∀ i (h : i < ts.length) (h' : i < hs.length), w.cell? ⟨b, off + i * 3, none⟩ = some (.int .i64 ts[i].op) ∧ w.cell? ⟨b, off + i * 3 + 1, none⟩ = some (.string ts[i].name) ∧ w.cell? ⟨b, off + i * 3 + 2, none⟩ = some (.slice hs[i].1 ts[i].args.length hs[i].2) ∧ FormIn w S (ts[i].hd hs[i].1 hs[i].2).val ts[i] := by
    refine ⟨List.ofFn fun i : Fin ts.length => ((hc i.val i.isLt).choose, (hc i.val i.isLt).choose_spec.choose), by simp, fun i hi hi' => ?_⟩
    simp only [List.getElem_ofFn]
    exact (hc i hi).choose_spec.choose_spec
  obtain ⟨hs, h1, h2⟩ := key
  refine ⟨b, off, hs, (ha h0).1, h1, fun j u hj => ?_, fun i hi hi' => (h2 i hi hi').2.2.2⟩
  have hlen : (hds ts hs).length = ts.length := by simp [hds, h1]
  have hjl : j < (flatF (hds ts hs)).length := by
    rcases Nat.lt_or_ge j (flatF (hds ts hs)).length with h | h
    · exact h
    · rw [List.getElem?_eq_none h] at hj; cases hj
  rw [flatF_len, hlen] at hjl
  have hi : j / 3 < ts.length := by omega
  have hz : j / 3 < (hds ts hs).length := by omega
  have e : j / 3 * 3 + j % 3 = j := by omega
  have hg := flatF_get (hds ts hs) (j / 3) (j % 3) hz (by omega)
  rw [e, hj] at hg
  obtain ⟨c0, c1, c2, -⟩ := h2 (j / 3) hi (by omega)
  have e2 : off + j = off + j / 3 * 3 + j % 3 := by omega
  rw [e2]
  have hgz : (hds ts hs)[j / 3] = ts[j / 3].hd (hs[j / 3]'(by omega)).1 (hs[j / 3]'(by omega)).2 := by simp [hds]
  rw [hgz] at hg
  have h3 : j % 3 = 0 ∨ j % 3 = 1 ∨ j % 3 = 2 := by omega
  rcases h3 with h3 | h3 | h3
  · rw [h3] at hg ⊢
    simp [Hd.cells, Tree.hd] at hg
    rw [hg]; exact c0
  · rw [h3] at hg ⊢
    simp [Hd.cells, Tree.hd] at hg
    rw [hg]; exact c1
  · rw [h3] at hg ⊢
    simp [Hd.cells, Tree.hd] at hg
    rw [hg]; exact c2

theorem run_append_forms {w : World} (ty : TypeId) (B nb : Nat) (hnb : B ≤ nb) (hB : B ≤ w.heap.size) (hblk : w.heap[nb]? = some (.cells #[] 24 (0, 0))) {S : Nat → Prop} {a : Option Addr} {cap : Nat} {ts : List Tree} (hf : FormsIn w S a ts) (h0 : 0 < ts.length) (hlen : ts.length ≤ 1000000) :
    ∃ v' w', (Builtin.append_ #[22, 22] ty #[.slice (some ⟨nb, 0, none⟩) 0 0, .slice a ts.length cap]).run Tryd.prog w = .ok v' w' ∧ OwnG w' B S v' ts ∧ Below w.heap.size w w' := by
  obtain ⟨i0, hi, hz0, hz1, hz2⟩ := info_parts infoF
  obtain ⟨b, off, hs, rfl, h1, hcells, hform⟩ := hf.hs h0
  have hadd : ∀ j, (⟨b, off, none⟩ : Addr).add j = ⟨b, off + j, none⟩ := fun j => by unfold Addr.add; split <;> simp_all
  have hl : (flatF (hds ts hs)).length = ts.length * i0.size := by
    rw [flatF_len, hz1]
    simp [hds, h1]
  have hnews : ∀ j u, (flatF (hds ts hs))[j]? = some u → w.cell? ((⟨b, off, none⟩ : Addr).add j) = some u := fun j u hj => by rw [hadd]; exact hcells j u hj
  have hown : w.ownsRow B 24 i0.size (.slice (some ⟨nb, 0, none⟩) 0 0) 0 [] := ⟨by simp, .inr ⟨nb, 0, #[], rfl, hnb, hblk, Nat.le_refl _, Nat.zero_le _, by simp, by simp⟩⟩
  obtain ⟨v', w', hr, h2, -, -⟩ := run_append_own (P := Tryd.prog) w B 22 ty 24 i0 _ i0.size 48 Tryd.underlying22 hi hz0 rfl hz2 (by rw [hz1]; rfl) (by rw [hz1]; decide) _ 0 [] hown ⟨b, off, none⟩ ts.length cap _ hl hnews (flatF_one _) (by unfold maxLen; omega) (by omega) hB
  have hx := run_append_grow (P := Tryd.prog) w 22 ty 24 i0 _ Tryd.underlying22 hi hz0 ⟨nb, 0, none⟩ 0 0 [] (by simp) (by intro j v h; simp at h) ⟨b, off, none⟩ ts.length cap _ hl hnews (by omega) (by omega) (growslice_fits (by omega) (by rw [hz2]; omega))
  have hbel : Below w.heap.size w w' := by
    rw [hx] at hr
    injection hr with _ hr
    rw [← hr]
    exact ⟨rfl, rfl, rfl, by simp, fun k hk => heap_alloc_old w.drew _ hk⟩
  rw [hz1] at h2
  simp only [Nat.zero_add, List.nil_append] at h2
  exact ⟨v', w', hr, ⟨hs, h1, h2, fun i hi hi' => (hform i hi hi').go hbel⟩, hbel⟩

theorem run_append_nothing {w : World} (ty : TypeId) (nb : Nat) (a : Option Addr) (cap : Nat) :
    (Builtin.append_ #[22, 22] ty #[.slice (some ⟨nb, 0, none⟩) 0 0, .slice a 0 cap]).run Tryd.prog w = .ok (.slice (some ⟨nb, 0, none⟩) 0 0) w := by
  obtain ⟨i0, hi, hz0, hz1, hz2⟩ := info_parts infoF
  cases a <;> simp [Builtin.append_, run_underlying Tryd.underlying22, sizeOf, typeInfo, hi, Builtin.lenOf, Builtin.firstCells, loadCells, loadCellsFrom, storeCells]

/-- The same, whatever the list's length. -/
theorem run_append_all {w : World} (ty : TypeId) (B nb : Nat) (hnb : B ≤ nb) (hB : B ≤ w.heap.size) (hblk : w.heap[nb]? = some (.cells #[] 24 (0, 0))) {S : Nat → Prop} {a : Option Addr} {cap : Nat} {ts : List Tree} (hf : FormsIn w S a ts) (hlen : ts.length ≤ 1000000) :
    ∃ v' w', (Builtin.append_ #[22, 22] ty #[.slice (some ⟨nb, 0, none⟩) 0 0, .slice a ts.length cap]).run Tryd.prog w = .ok v' w' ∧ OwnG w' B S v' ts ∧ Below w.heap.size w w' := by
  by_cases h0 : 0 < ts.length
  · exact run_append_forms ty B nb hnb hB hblk hf h0 hlen
  · obtain rfl : ts = [] := List.eq_nil_of_length_eq_zero (by omega)
    exact ⟨_, _, run_append_nothing ty nb a cap, ⟨[], rfl, ⟨by simp [hds, flatF], .inr ⟨nb, 0, #[], rfl, hnb, hblk, Nat.le_refl _, Nat.zero_le _, by simp, by simp [hds, flatF]⟩⟩, fun i h => by simp at h⟩, Below.refl _ _⟩

/-- At a step of a region that draws its order. -/
theorem step_append_all {w : World} {ops : Array Oper} {o : Oper} {a : Act} {K : Act → World → Prop} {Q : Exit → Act → World → Prop} {E : Prop} (hgd : o.guard = none) (s x : Operand)
    (ho : o.op = .call { callee := .builtin .append, args := #[s, x], argTypes := #[22, 22] }) (B nb : Nat) (hs : a.eval s = .slice (some ⟨nb, 0, none⟩) 0 0) (hnb : B ≤ nb) (hB : B ≤ w.heap.size) (hblk : w.heap[nb]? = some (.cells #[] 24 (0, 0)))
    {S : Nat → Prop} {ad : Option Addr} {cap : Nat} {ts : List Tree} (hx : a.eval x = .slice ad ts.length cap) (hf : FormsIn w S ad ts) (hlen : ts.length ≤ 1000000)
    (h : ∀ v' w', OwnG w' B S v' ts → Below w.heap.size w w' → K (a.put o.dst v') w') :
    if Region.wanted o (yielded ops a.tmps) = true then Oper.wp Tryd.prog o a w K Q else E := by
  have hw : Region.wanted o (yielded ops a.tmps) = true := by simp [Region.wanted, hgd]
  rw [if_pos hw]
  obtain ⟨v', w', hr, h1, h2⟩ := run_append_all (w := w) o.type B nb hnb hB hblk (cap := cap) hf hlen
  unfold Oper.wp execOp
  simp only [ho, resolve, invoke, builtin, Sem.run_bind, Sem.run_pure, Result.andThen_ok, List.map_toArray, List.map_cons, List.map_nil, hs, hx, hr]
  exact h v' w' h1 h2
end Go.Proofs.YtpiiadmjddikfaaDoor
