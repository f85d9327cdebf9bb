/- The reference's Same, at two lists that read alike; append of one list of literals to another. -/
import Derived.Test.YtbldlngblmegfaaHas
import Derived.Laws.AppendOwnNone
namespace Go.Proofs.Ytbldlngblmegfaa
open Go.RowKit Go.Sort

theorem LitsAt.form {w : World} {v : Value} {xs : List Lt} (h : LitsAt w v xs) : ∃ (a : Option Addr) (c : Nat), v = .slice a xs.length c ∧
    (∀ i, i < xs.length → ∃ b off, a = some ⟨b, off, none⟩ ∧ w.cell? ⟨b, off + i * 2, none⟩ = some (.bool (xs[i]!).neg) ∧ w.cell? ⟨b, off + i * 2 + 1, none⟩ = some (.string (xs[i]!).name)) := by
  rcases h with ⟨rfl, rfl⟩ | ⟨b, off, cap, rfl, h2, h3, h4, h5⟩
  · exact ⟨none, 0, rfl, fun i hi => by simp at hi⟩
  · exact ⟨_, cap, rfl, fun i hi => ⟨b, off, rfl, h5 i hi⟩⟩

set_option maxRecDepth 100000 in
set_option maxHeartbeats 1000000 in
theorem same_true (v1 v2 : Value) (xs : List Lt) (w : World) (h1 : LitsAt w v1 xs) (h2 : LitsAt w v2 xs) (hn : xs.length ≤ 1000000) :
    Calls Try.prog 28 #[v1, v2] w fun e w' => e = .returned (.bool true) ∧ Below w.heap.size w w' := by
  obtain ⟨a1, c1, rfl, k1⟩ := h1.form
  obtain ⟨a2, c2, rfl, k2⟩ := h2.form
  have K1 := hidIt k1
  have K2 := hidIt k2
  clear k1 k2 h1 h2
  go_enter Try.func28, Try.ntmps28
  go_wp2_with fail
  go_loopw [5] (fun i wr => ∃ k n : Nat, k ≤ xs.length ∧ i = .int .i64 k ∧ wr = w.drewN n) (fun i _ => xs.length - (intOf i).toNat)
  case atStart => exact ⟨0, 0, Nat.zero_le _, rfl, rfl⟩
  case round =>
    obtain ⟨k, n, hk, rfl, rfl⟩ := hrel
    by_cases hlt : k < xs.length
    · obtain ⟨b1, o1, rfl, p0, p1⟩ := K1.out k hlt
      obtain ⟨b2, o2, rfl, q0, q1⟩ := K2.out k hlt
      generalize xs[k]! = x at p0 p1 q0 q1
      obtain ⟨gx, sx⟩ := x
      simp only at p0 p1 q0 q1
      have hq : ∀ w, (Op.equalIn 10000 23 (.agg #[.bool gx, .string sx]) (.agg #[.bool gx, .string sx])).run Try.prog w = .ok true w := fun w => by rw [eqFieldsL]; simp
      have hgd := fun (op : BinOp) (a b : Operand) (w : World) => gdL op a b gx gx sx sx w
      go_wp2_with fail
      go_quiet (fail)
      go_wp2
      go_roundw
      case rel => exact ⟨k + 1, _, by omega, by go_num, rfl⟩
      case measure => simp [intOf]; omega
    · go_wp2
      go_ret
      exact ⟨rfl, ⟨rfl, rfl, rfl, Nat.le_refl _, fun _ _ => rfl⟩⟩

/-- append of a list of literals to a row that the call owns. -/
theorem wpList_append_lits {w : World} {ops : Array Oper} {rest : List Oper} {o : Oper} {a : Act} {Q : Exit → Act → World → Prop} (hgd : o.guard = none) (s x : Operand)
    (ho : o.op = .call { callee := .builtin .append, args := #[s, x], argTypes := #[29, 29] }) (base : Nat) (v : Value) (xs : List Lt) (hs : a.eval s = v) (hown : OwnL w base v xs)
    (vx : Value) (ys : List Lt) (hx : a.eval x = vx) (hl : LitsAt w vx ys) (hlen : xs.length + ys.length ≤ 1000000) (hbase : base ≤ w.heap.size)
    (h : ∀ v' w', OwnL w' base v' (xs ++ ys) → w.grownBy w' v.ownBlock → (v' = .slice none 0 0 → v = .slice none 0 0) → wpList Try.prog ops Q rest (a.put o.dst v') w') : wpList Try.prog ops Q (o :: rest) a w := by
  obtain ⟨i0, hi, hz0, hz1, hz2⟩ := info_parts infoL
  rcases hl with ⟨rfl, rfl⟩ | ⟨b, off, cap, rfl, h2, h3, h4, h5⟩
  · exact wpList_append_own_none hgd s x 29 ho base 23 i0 2 Try.underlying29 hi v xs.length (flatL xs) hs hown hx (h v w (by rw [List.append_nil]; exact hown) (only_refl w _) id)
  · refine wpList_append_own w hgd s x 29 ho base 23 i0 _ 2 24 Try.underlying29 hi hz0 hz1 hz2 rfl (by decide) v xs.length (flatL xs) hs hown ⟨b, off, none⟩ ys.length cap (flatL ys) hx (flatL_len ys) (fun j u hj => ?_) (flatL_one ys) (by unfold maxLen; omega) (by omega) hbase (fun v' w' o1 o2 o3 => ?_)
    · have := LitsAt.cells h5 j u hj
      have e : (⟨b, off, none⟩ : Addr).add j = ⟨b, off + j, none⟩ := by unfold Addr.add; split <;> simp_all
      rw [e]
      exact this
    · refine h v' w' ?_ o2 (fun e => (o3.1 e).1)
      show World.ownsRow _ _ _ _ _ _ _
      rw [flatL_append, List.length_append]
      exact o1

/-- An empty row that has just been laid. -/
theorem OwnL.made (w : World) (B : Nat) (hB : B ≤ w.heap.size) : OwnL (w.alloc (.cells #[] 23)) B (.slice (some ⟨w.heap.size, 0, none⟩) 0 0) [] := by
  have h := World.ownsRow_made (base := B) (e := 23) (size := 2) w #[] 0 hB (Nat.zero_le _) rfl
  unfold OwnL
  rw [flatL_nil]
  exact h

theorem compactUpTo_sub (d : Array Lt) (m : Nat) (hm : m ≤ d.size) : (Lib.compactUpTo d m).Sublist (d.toList.take m) := by
  unfold Lib.compactUpTo
  have e : d.toList.take m = (List.range m).map (d[·]!) := by
    apply List.ext_getElem
    · simp; omega
    · intro i h1 h2
      have hi : i < m := by simpa using h2
      simp only [List.getElem_take, List.getElem_map, List.getElem_range, Array.getElem_toList]
      rw [getElem!_pos d i (by omega)]
  rw [e]
  exact List.filter_sublist.map _

theorem nrm_pair (zs : List Lt) : (nrm zs).Pairwise fun a b => (!ltOf cmpI b a) = true := by
  have h := compactUpTo_sub (srt zs).toArray _ (Nat.le_refl _)
  have h2 : ((srt zs).toArray.toList.take (srt zs).toArray.size) = srt zs := by simp
  rw [h2] at h
  exact (srt_pair zs).sublist h

/-- Two lists with the same elements have one normal form. -/
theorem nrm_ext {xs ys : List Lt} (h : ∀ x, x ∈ xs ↔ x ∈ ys) : nrm xs = nrm ys := by
  obtain ⟨n1, m1⟩ := nrm_facts xs
  obtain ⟨n2, m2⟩ := nrm_facts ys
  have key : ∀ zs : List Lt, (nrm zs).Pairwise fun a b => (!ltOf cmpI b a) = true := nrm_pair
  exact List.Perm.eq_of_pairwise (le := fun a b => (!ltOf cmpI b a) = true) (fun a b _ _ h1 h2 => by
    simp only [Bool.not_eq_true'] at h1 h2
    exact lt_total a b h2 h1) (key xs) (key ys) ((List.perm_ext_iff_of_nodup n1 n2).2 (fun x => (m1 x).trans ((h x).trans (m2 x).symm)))
end Go.Proofs.Ytbldlngblmegfaa
