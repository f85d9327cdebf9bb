/- Numbers out of a reader: below a bound, out of a list. -/
import Derived.Test.YtfiaoibfejginaaDoorKeep
namespace Go.Proofs.YtfiaoibfejginaaDoor
set_option linter.unusedVariables false
set_option linter.unusedSimpArgs false
open Go.RowKit

theorem sn_nat (n : Int) (hn : 1 ≤ n) (hn' : n ≤ 9223372036854775807) (B b : Nat) (zs : List Int) (k : Nat) (w : World) (h : SrcAt w B b zs k) :
    Calls Tryd.prog 31 #[.pointer (some ⟨b, 0, none⟩), .int .i64 n] w fun e w' => ∃ (m k' : Nat), e = .returned (.int .i64 (m : Int)) ∧ (m : Int) < n ∧ SrcAt w' B b zs k' ∧ w.grownBy w' (some b) :=
  (sn_any n hn hn' B b zs k w h).mono fun e w' ⟨z, k', he, ⟨h0, h1⟩, hs, hg⟩ => by
    obtain ⟨m, rfl⟩ : ∃ m : Nat, z = (m : Int) := ⟨z.toNat, by omega⟩
    exact ⟨m, k', he, h1, hs, hg⟩

/-- A list of numbers that has been laid whole. -/
def intRow (ss : List Int) : Array Value := (ss.map (Value.int .i64)).toArray
theorem int_cell {w : World} {lb : Nat} {ss : List Int} {t : TypeId} (h : w.heap[lb]? = some (.cells (intRow ss) t (0, 0))) (m : Nat) (hm : m < ss.length) : w.cell? ⟨lb, m, none⟩ = some (.int .i64 (ss[m])) := by
  simp [World.cell?, h, intRow, hm]

end Go.Proofs.YtfiaoibfejginaaDoor
