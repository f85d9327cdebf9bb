/- append of a list of literals to a row that the call owns, at a step of a region that draws its order. -/
import Derived.Test.YtbldlngblmegfaaSame
import Derived.Deep.AppendLies
import Derived.Deep.RegionLaw
namespace Go.Proofs.Ytbldlngblmegfaa
open Go.RowKit Go.Sort

theorem run_append_lits {w : World} (ty : TypeId) (B : Nat) (v : Value) (xs : List Lt) (hown : OwnL w B v xs) (vx : Value) (ys : List Lt) (hl : LitsAt w vx ys) (hlen : xs.length + ys.length ≤ 1000000) (hB : B ≤ w.heap.size) :
    ∃ v' w', (Builtin.append_ #[29, 29] ty #[v, vx]).run Try.prog w = .ok v' w' ∧ OwnL w' B v' (xs ++ ys) ∧ w.grownBy w' v.ownBlock := by
  obtain ⟨i0, hi, hz0, hz1, hz2⟩ := info_parts infoL
  have hrow : w.ownsRow B 23 i0.size v xs.length (flatL xs) := by rw [hz1]; exact hown
  rcases hl with ⟨rfl, rfl⟩ | ⟨b, off, cap, rfl, h2, h3, h4, h5⟩
  · have hrun := run_append_owned_none (P := Try.prog) (w := w) B 29 ty 23 i0 i0.size Try.underlying29 hi v xs.length _ hrow
    exact ⟨v, w, hrun, by rw [List.append_nil]; exact hown, only_refl w _⟩
  · have hnews : ∀ j u, (flatL ys)[j]? = some u → w.cell? ((⟨b, off, none⟩ : Addr).add j) = some u := fun j u hj => by
      have := LitsAt.cells h5 j u hj
      have e : (⟨b, off, none⟩ : Addr).add j = ⟨b, off + j, none⟩ := by unfold Addr.add; split <;> simp_all
      rw [e]
      exact this
    obtain ⟨v', w', hr, h6, h7, h8⟩ := run_append_own (P := Try.prog) w B 29 ty 23 i0 _ i0.size 24 Try.underlying29 hi hz0 rfl hz2 (by rw [hz1]; rfl) (by rw [hz1]; decide) v xs.length _ hrow ⟨b, off, none⟩ ys.length cap (flatL ys) (by rw [hz1, flatL_len]) hnews (flatL_one ys) (by unfold maxLen; omega) (by omega) hB
    refine ⟨v', w', hr, ?_, h7⟩
    show World.ownsRow _ _ _ _ _ _ _
    rw [flatL_append, List.length_append, ← hz1]
    exact h6

theorem step_append_lits {w : World} {ops : Array Oper} {o : Oper} {a : Act} {K : Act → World → Prop} {Q : Exit → Act → World → Prop} {E : Prop} (hgd : o.guard = none) (s x : Operand)
    (ho : o.op = .call { callee := .builtin .append, args := #[s, x], argTypes := #[29, 29] }) (B : Nat) (v : Value) (xs : List Lt) (hs : a.eval s = v) (hown : OwnL w B v xs)
    (vx : Value) (ys : List Lt) (hx : a.eval x = vx) (hl : LitsAt w vx ys) (hlen : xs.length + ys.length ≤ 1000000) (hB : B ≤ w.heap.size)
    (h : ∀ v' w', OwnL w' B v' (xs ++ ys) → w.grownBy w' v.ownBlock → K (a.put o.dst v') w') :
    if Region.wanted o (yielded ops a.tmps) = true then Oper.wp Try.prog o a w K Q else E := by
  have hw : Region.wanted o (yielded ops a.tmps) = true := by simp [Region.wanted, hgd]
  rw [if_pos hw]
  obtain ⟨v', w', hr, h1, h2⟩ := run_append_lits (w := w) o.type B v xs hown vx ys hl hlen hB
  unfold Oper.wp execOp
  simp only [ho, resolve, invoke, builtin, Sem.run_bind, Sem.run_pure, Result.andThen_ok, List.map_toArray, List.map_cons, List.map_nil, hs, hx, hr]
  exact h v' w' h1 h2

/-- One literal in a row of its own. -/
theorem lits_one {w : World} {m : Nat} {g : Bool} {s : ByteArray} {ty : TypeId} (h : w.heap[m]? = some (.cells #[.bool g, .string s] ty (0, 0))) : LitsAt w (.slice (some ⟨m, 0, none⟩) 1 1) [⟨g, s⟩] := by
  refine .inr ⟨m, 0, 1, rfl, Nat.le_refl _, by unfold maxLen; omega, lt_of_block h, fun i hi => ?_⟩
  obtain rfl : i = 0 := by simp at hi; exact hi
  exact ⟨cell_two0 h, cell_two1 h⟩

theorem LitsAt.drop {w : World} {b off n c : Nat} {xs : List Lt} (h : LitsAt w (.slice (some ⟨b, off, none⟩) n c) xs) (k : Nat) (hk : k ≤ xs.length) : LitsAt w (.slice (some ⟨b, off + k * 2, none⟩) (n - k) (c - k)) (xs.drop k) := by
  rcases h with ⟨h1, -⟩ | ⟨b', off', cap, h1, h2, h3, h4, h5⟩
  · cases h1
  · injection h1 with e1 e2 e3
    injection e1 with e1
    injection e1 with e1 e4
    subst e1 e2 e3 e4
    have hl : (xs.drop k).length = xs.length - k := by rw [List.length_drop]
    refine .inr ⟨b, off + k * 2, c - k, by rw [hl], by rw [hl]; omega, by unfold maxLen at *; omega, h4, fun i hi => ?_⟩
    rw [hl] at hi
    have e : (xs.drop k)[i]! = xs[k + i]! := by rw [getElem!_pos (xs.drop k) i (by omega), getElem!_pos xs (k + i) (by omega), List.getElem_drop]
    rw [e, show off + k * 2 + i * 2 = off + (k + i) * 2 by omega]
    exact h5 (k + i) (by omega)
theorem LitsAt.drop' {w : World} {b off n c : Nat} {xs : List Lt} (h : LitsAt w (.slice (some ⟨b, off, none⟩) n c) xs) (k : Nat) (hk : k ≤ xs.length) : LitsAt w (.slice (if c = k then some ⟨b, off, none⟩ else some ⟨b, off + k * 2, none⟩) (n - k) (c - k)) (xs.drop k) := by
  by_cases hc : c = k
  · rw [if_pos hc]
    rcases h with ⟨h1, -⟩ | ⟨b', off', cap, h1, h2, h3, h4, h5⟩
    · cases h1
    · injection h1 with e1 e2 e3
      injection e1 with e1
      injection e1 with e1 e4
      subst e1 e2 e3 e4
      have hl : (xs.drop k).length = xs.length - k := by rw [List.length_drop]
      exact .inr ⟨b, off, c - k, by rw [hl], by rw [hl]; omega, by unfold maxLen at *; omega, h4, fun i hi => by rw [hl] at hi; omega⟩
  · rw [if_neg hc]
    exact h.drop k hk
end Go.Proofs.Ytbldlngblmegfaa
