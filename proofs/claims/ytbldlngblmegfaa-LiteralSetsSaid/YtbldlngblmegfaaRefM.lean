/- The reference's Normal, and what its Insert makes. -/
import Derived.Test.YtbldlngblmegfaaInsert
namespace Go.Proofs.Ytbldlngblmegfaa
open Go.RowKit Go.Sort

theorem insL_mem (x : Lt) : ∀ (xs : List Lt) (z : Lt), z ∈ insL x xs ↔ z = x ∨ z ∈ xs
  | [], z => by simp [insL]
  | y :: ys, z => by
    unfold insL
    split
    · rw [List.mem_cons, insL_mem x ys z, List.mem_cons]
      constructor
      · rintro (h | h | h) <;> simp [h]
      · rintro (h | h | h) <;> simp [h]
    · split
      · rename_i h
        subst h
        simp
      · simp

theorem insL_len (x : Lt) : ∀ xs : List Lt, (insL x xs).length ≤ xs.length + 1
  | [] => by simp [insL]
  | y :: ys => by
    have := insL_len x ys
    unfold insL
    split
    · simp; omega
    · split <;> simp

def Asc (xs : List Lt) : Prop := xs.Pairwise fun a b => cmpI a b < 0

theorem cmpI_gt {a b : Lt} (h : ¬ cmpI a b < 0) (hne : a ≠ b) : cmpI b a < 0 := by
  have h3 := cmpI_swap a b
  rcases cmpI_bd a b with h1 | h1 | h1
  · omega
  · exact absurd (cmpI_zero h1) hne
  · omega

theorem insL_asc (x : Lt) : ∀ xs : List Lt, Asc xs → Asc (insL x xs)
  | [], _ => by simp [insL, Asc]
  | y :: ys, h => by
    obtain ⟨h1, h2⟩ := List.pairwise_cons.1 h
    unfold insL
    split
    · rename_i hy
      refine List.pairwise_cons.2 ⟨fun z hz => ?_, insL_asc x ys h2⟩
      rcases (insL_mem x ys z).1 hz with rfl | hz
      · exact hy
      · exact h1 z hz
    · rename_i hy
      split
      · exact h
      · rename_i hne
        have hxy := cmpI_gt hy hne
        refine List.pairwise_cons.2 ⟨fun z hz => ?_, h⟩
        rcases List.mem_cons.1 hz with rfl | hz
        · exact hxy
        · exact cmpI_trans hxy (h1 z hz)

/-- The ascending list of a list's elements, by insertion. -/
def insAll (xs : List Lt) : List Lt := xs.foldl (fun l x => insL x l) []
theorem insAll_snoc (xs : List Lt) (x : Lt) : insAll (xs ++ [x]) = insL x (insAll xs) := by simp [insAll]
theorem insAll_facts (xs : List Lt) : ∀ n, n ≤ xs.length → Asc (insAll (xs.take n)) ∧ (∀ z, z ∈ insAll (xs.take n) ↔ z ∈ xs.take n) ∧ (insAll (xs.take n)).length ≤ n
  | 0, _ => by simp [insAll, Asc]
  | n + 1, hn => by
    obtain ⟨h1, h2, h3⟩ := insAll_facts xs n (by omega)
    rw [List.take_succ_eq_append_getElem (by omega), insAll_snoc]
    refine ⟨insL_asc _ _ h1, fun z => ?_, Nat.le_trans (insL_len _ _) (by omega)⟩
    rw [insL_mem, h2, List.mem_append, List.mem_singleton]
    exact Or.comm

theorem asc_nrm (xs : List Lt) : Asc (nrm xs) := by
  refine List.pairwise_iff_getElem.2 fun i j hi hj hij => ?_
  have h1 := List.pairwise_iff_getElem.1 (nrm_pair xs) i j hi hj hij
  have h2 := List.pairwise_iff_getElem.1 (nrm_facts xs).1 i j hi hj hij
  simp only [ltOf, Bool.not_eq_true', decide_eq_false_iff_not] at h1
  exact cmpI_gt h1 (fun e => h2 e.symm)

theorem asc_nodup {xs : List Lt} (h : Asc xs) : xs.Nodup := h.imp fun {a b} hab e => by
  subst e
  rw [cmpI_self] at hab
  omega

/-- Insertion makes the normal form. -/
theorem insAll_nrm (xs : List Lt) : insAll xs = nrm xs := by
  obtain ⟨h1, h2, -⟩ := insAll_facts xs xs.length (Nat.le_refl _)
  rw [List.take_length] at h1 h2
  refine List.Perm.eq_of_pairwise (le := fun a b => cmpI a b < 0) (fun a b _ _ h3 h4 => ?_) h1 (asc_nrm xs) ((List.perm_ext_iff_of_nodup (asc_nodup h1) (nrm_facts xs).1).2 fun x => (h2 x).trans ((nrm_facts xs).2 x).symm)
  have := cmpI_trans h3 h4
  rw [cmpI_self] at this
  omega

set_option maxRecDepth 100000 in
set_option maxHeartbeats 1000000 in
theorem rNormal_any (v : Value) (xs : List Lt) (w : World) (h : LitsAt w v xs) (hn : xs.length ≤ 1000) :
    Calls Try.prog 30 #[v] w fun e w' => ∃ v', e = .returned v' ∧ LitsAt w' v' (nrm xs) ∧ Below w.heap.size w w' := by
  have HL := hidIt h
  obtain ⟨a, c, rfl, -⟩ := h.form
  clear h
  go_enter Try.func30, Try.ntmps30
  go_wp2_with fail
  go_loopw [3, 4] (fun o i wr => ∃ k : Nat, k ≤ xs.length ∧ i = .int .i64 k ∧ Hid (LitsAt wr o (insAll (xs.take k))) ∧ Hid (Below w.heap.size w wr)) (fun _ i _ => xs.length - (intOf i).toNat)
  case atStart => exact ⟨0, Nat.zero_le _, rfl, .inl ⟨rfl, rfl⟩, Below.refl _ _⟩
  case round =>
    obtain ⟨k, hk, rfl, hout, hbel⟩ := hrel
    by_cases hlt : k < xs.length
    · obtain ⟨a', c', e, k1⟩ := (HL.out.below hbel.out).form
      obtain ⟨b1, o1, ha, p0, p1⟩ := k1 k hlt
      injection e with e1 e2 e3
      subst e1 e3
      subst ha
      have hst : Hid (insAll (xs.take (k + 1)) = insL xs[k]! (insAll (xs.take k))) := by show _ = _; rw [List.take_succ_eq_append_getElem hlt, insAll_snoc, getElem!_pos xs k hlt]
      have hlen := hidIt (insAll_facts xs k hk).2.2
      clear k1
      generalize xs[k]! = y at *
      go_wp2_with fail
      have hI := rInsert_any _ (insAll (xs.take k)) y wr hout.out (by have := hlen.out; omega)
      refine hI.mono ?_
      rintro e w2 ⟨v2, rfl, hl2, hb2⟩
      have HB2 := hidIt (hbel.out.trans (hb2.mono hbel.out.size))
      have HL2 := hidIt hl2
      clear hb2 hl2 hI
      go_wp2_with fail
      go_roundw
      case rel => exact ⟨k + 1, by omega, by go_num, by show LitsAt _ _ _; rw [hst.out]; exact HL2.out, HB2⟩
      case measure => simp [intOf]; omega
    · go_wp2
      go_ret
      refine ⟨_, rfl, ?_, hbel.out⟩
      have h1 := hout.out
      rw [List.take_of_length_le (by omega), insAll_nrm] at h1
      exact h1
end Go.Proofs.Ytbldlngblmegfaa
