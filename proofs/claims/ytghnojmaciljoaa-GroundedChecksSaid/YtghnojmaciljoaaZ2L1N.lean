/- The law LabellingOrders: for any two lists and every list of numbers it answers true. -/
import Derived.Test.YtghnojmaciljoaaZ2L1M

namespace Go.Proofs.Ytghnojmaciljoaa
set_option linter.unusedVariables false
set_option linter.unusedSimpArgs false
open Go Go.RowKit Go.Sort

/-- A list of lists that has been laid whole: its cells are lists that read as known ones. -/
theorem ll_blk {w : World} {b c : Nat} {vs : List Value} {zss : List (List Int)} {t : TypeId} (h : w.heap[b]? = some (.cells vs.toArray t (0, 0))) (hl : vs.length = zss.length) (hc : zss.length ≤ c) (hm : c ≤ maxLen) (hi : ∀ i (h1 : i < vs.length) (h2 : i < zss.length), IL w vs[i] zss[i]) : LL w (.slice (some ⟨b, 0, none⟩) zss.length c) zss :=
  .inr ⟨b, 0, c, rfl, hc, hm, lt_of_block h, fun i h2 => ⟨vs[i]'(by omega), by simp [World.cell?, h, show i < vs.length by omega], hi i (by omega) h2⟩⟩

theorem IL.cut {w : World} {a : Option Addr} {n c k : Nat} {zs : List Int} (h : IL w (.slice a n c) zs) (hk : k ≤ zs.length) : IL w (.slice a k c) (zs.take k) := by
  rcases h with ⟨h, rfl⟩ | ⟨b, off, cap, h1, h2, h3, h4, h5⟩
  · injection h with h1 h2 h3
    subst h1 h3
    obtain rfl : k = 0 := by simpa using hk
    exact .inl ⟨rfl, rfl⟩
  · injection h1 with h1 h6 h7
    subst h1 h7
    have hl : (zs.take k).length = k := by rw [List.length_take]; omega
    refine .inr ⟨b, off, c, by rw [hl], by omega, h3, h4, fun i hi => ?_⟩
    rw [List.getElem_take]
    exact h5 i (by omega)
theorem IL.room {w : World} {a : Option Addr} {n c : Nat} {zs : List Int} (h : IL w (.slice a n c) zs) : zs.length ≤ c ∧ c ≤ maxLen := by
  rcases h with ⟨h, rfl⟩ | ⟨b, off, cap, h1, h2, h3, h4, h5⟩
  · exact ⟨Nat.zero_le _, by injection h with _ _ h3; subst h3; exact Nat.zero_le _⟩
  · injection h1 with h1 h6 h7
    subst h7
    exact ⟨h2, h3⟩
theorem IL.addr {w : World} {a : Option Addr} {n c : Nat} {zs : List Int} (h : IL w (.slice a n c) zs) (h0 : 0 < zs.length) : ∃ b off, a = some ⟨b, off, none⟩ := by
  rcases h with ⟨h, rfl⟩ | ⟨b, off, cap, h1, h2, h3, h4, h5⟩
  · cases h0
  · injection h1 with h1 h6 h7
    exact ⟨b, off, h1⟩
/-- A list of lists, all short. -/
def Sh (zss : List (List Int)) : Prop := ∀ i (h : i < zss.length), zss[i].length ≤ 60

end Go.Proofs.Ytghnojmaciljoaa
