/- Numbers out of a reader: below a bound, out of a list. -/
import Derived.Test.YtplkkkkcmfgkfaaGreatKeep
namespace Go.Proofs.YtplkkkkcmfgkfaaGreat
set_option linter.unusedVariables false
set_option linter.unusedSimpArgs false
open Go.RowKit

theorem sn_nat (n : Int) (hn : 1 ≤ n) (hn' : n ≤ 9223372036854775807) (B b : Nat) (zs : List Int) (k : Nat) (w : World) (h : SrcAt w B b zs k) :
    Calls Tryz.prog 5 #[.pointer (some ⟨b, 0, none⟩), .int .i64 n] w fun e w' => ∃ (m k' : Nat), e = .returned (.int .i64 (m : Int)) ∧ (m : Int) < n ∧ SrcAt w' B b zs k' ∧ w.grownBy w' (some b) :=
  (sn_any n hn hn' B b zs k w h).mono fun e w' ⟨z, k', he, ⟨h0, h1⟩, hs, hg⟩ => by
    obtain ⟨m, rfl⟩ : ∃ m : Nat, z = (m : Int) := ⟨z.toNat, by omega⟩
    exact ⟨m, k', he, h1, hs, hg⟩

/-- A list of numbers that has been laid whole. -/
def intRow (ss : List Int) : Array Value := (ss.map (Value.int .i64)).toArray
theorem int_cell {w : World} {lb : Nat} {ss : List Int} {t : TypeId} (h : w.heap[lb]? = some (.cells (intRow ss) t (0, 0))) (m : Nat) (hm : m < ss.length) : w.cell? ⟨lb, m, none⟩ = some (.int .i64 (ss[m])) := by
  simp [World.cell?, h, intRow, hm]

set_option maxHeartbeats 400000 in
theorem pick_any (lb : Nat) (ss : List Int) (t : TypeId) (hss : 1 ≤ ss.length) (hss' : ss.length ≤ 1000) (B b : Nat) (zs : List Int) (k : Nat) (w : World) (h : SrcAt w B b zs k) (hl : w.heap[lb]? = some (.cells (intRow ss) t (0, 0))) (hne : lb ≠ b) :
    Calls Tryz.prog 6 #[.pointer (some ⟨b, 0, none⟩), .slice (some ⟨lb, 0, none⟩) ss.length ss.length] w fun e w' => ∃ (s : Int) (k' : Nat), e = .returned (.int .i64 s) ∧ s ∈ ss ∧ SrcAt w' B b zs k' ∧ w.grownBy w' (some b) := by
  have H := hidIt h
  have HL := hidIt hl
  clear h hl
  go_enter Tryz.func6, Tryz.ntmps6
  go_wp2_with fail
  refine (sn_nat _ (by omega) (by omega) B b zs k _ H.out).mono ?_
  rintro e w' ⟨m, k', rfl, hm, hs, hg⟩
  have hm' : m < ss.length := by omega
  have hc : w'.cell? ⟨lb, m, none⟩ = some (.int .i64 (ss[m])) := hg.cell (int_cell HL.out m hm') (fun e => hne (by injection e))
  have HS := hidIt hs; have HG := hidIt hg; clear hs hg
  have hmem : Hid (ss[m] ∈ ss) := List.getElem_mem hm'
  generalize ss[m] = s at hc hmem
  go_wp2
  go_ret
  exact ⟨s, k', rfl, hmem.out, HS.out, HG.out⟩

end Go.Proofs.YtplkkkkcmfgkfaaGreat
