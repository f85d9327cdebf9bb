/- There is a grounded labelling; what Check says of it and of others. -/
import Derived.Test.YtghnojmaciljoaaZ2M1L
import Derived.Test.YtghnojmaciljoaaZ2L1P

namespace Go.Proofs.Ytghnojmaciljoaa
set_option linter.unusedVariables false
set_option linter.unusedSimpArgs false
open Go Go.RowKit Go.Sort

theorem bnd_run {N : Nat} {ps : List (Int × Int)} (hok : GOk (N : Int) ps) (hN : N ≤ 40) : ∀ (fuel m : Nat) (s : QS), Bnd N ps s m → m ≤ s.q.length → N - m ≤ fuel → ∃ s', Bnd N ps s' s'.q.length
  | fuel, m, s, h, hm, hf => by
    by_cases e : m < s.q.length
    · have h2 := h.step hok.ix hok.nodup hN e
      have h3 := rejA_len ps s s.q[m]
      have h4 := h.qlen.1
      match fuel, hf with
      | 0, hf => omega
      | f + 1, hf => exact bnd_run hok hN f (m + 1) _ h2 (by omega) (by omega)
    · obtain rfl : m = s.q.length := by omega
      exact ⟨s, h⟩
theorem gspec_ex {N : Nat} {ps : List (Int × Int)} (hok : GOk (N : Int) ps) : ∃ lab rk, GSpec N ps lab rk := by
  have hN : N ≤ 40 := by have := hok.n40; omega
  obtain ⟨s, hs⟩ := bnd_run hok hN N 0 _ (initS_bnd hok.ix hN) (Nat.zero_le _) (Nat.sub_le _ _)
  exact ⟨s.lab, s.rk, hs.spec hok.ix⟩
theorem chk_ok {N : Nat} {ps : List (Int × Int)} (hok : GOk (N : Int) ps) {lab rk : List Int} (h : GSpec N ps lab rk) : chkF (N : Int) ps lab rk = 0 := by
  unfold chkF
  rw [if_neg (fun e => e (valE_of hok)), Int.toNat_natCast]
  rw [if_neg (fun e => by
    rcases e with e | e
    · rw [validB_iff.2 ⟨h.complete.len, h.complete.ok⟩] at e; cases e
    · exact e h.rl)]
  rw [if_neg (by rw [(comp_iff hok.ix).2 h.complete]; decide), if_neg (by rw [(provB_iff hok.ix).2 h.prov]; decide)]
theorem chk_zero {N : Nat} {ps : List (Int × Int)} (hok : GOk (N : Int) ps) {lab rk z r : List Int} (h : GSpec N ps lab rk) (hc : chkF (N : Int) ps z r = 0) : lab = z := by
  unfold chkF at hc
  rw [if_neg (fun e => e (valE_of hok)), Int.toNat_natCast] at hc
  by_cases h1 : validB N z = false ∨ r.length ≠ N
  · rw [if_pos h1] at hc; cases hc
  rw [if_neg h1] at hc
  cases h2 : compB N ps z
  · rw [if_pos h2] at hc; cases hc
  rw [if_neg (by rw [h2]; decide)] at hc
  cases h3 : provB N ps z r
  · rw [if_pos h3] at hc; cases hc
  exact prov_same hok.ix h ((comp_iff hok.ix).1 h2) ((provB_iff hok.ix).1 h3)
def isR12 (N : Nat) (zs : List Int) : Value → World → Prop := fun v w => ∃ L : Nat, v = .slice (some ⟨L, 0, none⟩) N N ∧ IR w L zs
theorem isR12_up (N : Nat) (zs : List Int) : GoesUp (isR12 N zs) := fun _ _ _ hg ⟨b, h1, h2⟩ => ⟨b, h1, h2.go hg⟩
theorem uLabel_rel {N : Nat} {a : Option Addr} {c : Nat} {ps : List (Int × Int)} {w : World} {lab rk : List Int} (h : PairsAt w (.slice a ps.length c) ps) (hok : GOk (N : Int) ps) (hpl : ps.length ≤ 2000) (hs : GSpec N ps lab rk) :
    Calls Try.prog 11 #[.agg #[.int .i64 (N : Int), .slice a ps.length c]] w fun e w' => ∃ u, e = .returned u ∧ isR12 N lab u w' ∧ Below w.heap.size w w' :=
  (uLabel_any N a c ps w h hok hpl).mono fun e w' ⟨L, lab', rk', he, hl, hs', hb⟩ => ⟨_, he, ⟨L, rfl, by rw [(hs.uniq hok.ix hs').1]; exact hl⟩, hb⟩
theorem uRanks_rel {N : Nat} {a : Option Addr} {c : Nat} {ps : List (Int × Int)} {w : World} {lab rk : List Int} (h : PairsAt w (.slice a ps.length c) ps) (hok : GOk (N : Int) ps) (hpl : ps.length ≤ 2000) (hs : GSpec N ps lab rk) :
    Calls Try.prog 13 #[.agg #[.int .i64 (N : Int), .slice a ps.length c]] w fun e w' => ∃ u, e = .returned u ∧ isR12 N rk u w' ∧ Below w.heap.size w w' :=
  (uRanks_any N a c ps w h hok hpl).mono fun e w' ⟨L, lab', rk', he, hl, hs', hb⟩ => ⟨_, he, ⟨L, rfl, by rw [(hs.uniq hok.ix hs').2]; exact hl⟩, hb⟩
theorem types_neM {w : World} {a b : Nat} {ca cb : Array Value} {ta tb : TypeId} (h : w.heap[a]? = some (.cells ca ta (0, 0))) (h2 : w.heap[b]? = some (.cells cb tb (0, 0))) (hn : ta ≠ tb) : a ≠ b := fun e => by
  subst e
  rw [h] at h2
  injection h2 with h2
  injection h2 with _ h3
  exact hn h3
theorem IR.gr {w w' : World} {b L : Nat} {zs : List Int} (h : IR w L zs) (hg : w.grownBy w' (some b)) (hn : L ≠ b) : IR w' L zs := (hg.block L h.lt (fun e => by injection e with e; exact hn e)).trans h
theorem IR.ilN {w : World} {L N : Nat} {zs : List Int} (h : IR w L zs) (hl : zs.length = N) (hN : N ≤ 1000) : IL w (.slice (some ⟨L, 0, none⟩) N N) zs := by
  have h2 := h.il (c := N) (by omega) (by unfold maxLen; omega)
  rw [hl] at h2
  exact h2
end Go.Proofs.Ytghnojmaciljoaa
