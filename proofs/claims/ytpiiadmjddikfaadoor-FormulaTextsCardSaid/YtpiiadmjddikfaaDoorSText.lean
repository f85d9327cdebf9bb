/- The call that chooses one of some strings (package keep). -/
import Derived.Test.YtpiiadmjddikfaaDoorSForm
namespace Go.Proofs.YtpiiadmjddikfaaDoor
set_option linter.unusedVariables false
set_option linter.unusedSimpArgs false
open Go.RowKit

/-- A list of strings that has been laid whole. -/
def strRowK (ss : List ByteArray) : Array Value := (ss.map Value.string).toArray
theorem strK_cell {w : World} {lb : Nat} {ss : List ByteArray} (h : w.heap[lb]? = some (.cells (strRowK ss) 9 (0, 0))) (m : Nat) (hm : m < ss.length) : w.cell? ⟨lb, m, none⟩ = some (.string (ss[m])) := by
  simp [World.cell?, h, strRowK, hm]

set_option maxHeartbeats 400000 in
theorem stext_any (lb : Nat) (ss : List ByteArray) (hss : 1 ≤ ss.length) (hss' : ss.length ≤ 1000) (B b : Nat) (zs : List Int) (k : Nat) (w : World) (h : SrcAt w B b zs k) (hl : w.heap[lb]? = some (.cells (strRowK ss) 9 (0, 0))) (hne : lb ≠ b) :
    Calls Tryd.prog 21 #[.pointer (some ⟨b, 0, none⟩), .slice (some ⟨lb, 0, none⟩) ss.length ss.length] w fun e w' => ∃ (s : ByteArray) (k' : Nat), e = .returned (.string s) ∧ s ∈ ss ∧ SrcAt w' B b zs k' ∧ w.grownBy w' (some b) := by
  have H := hidIt h
  have HL := hidIt hl
  clear h hl
  go_enter Tryd.func21, Tryd.ntmps21
  go_wp2_with fail
  refine (sn_nat _ (by omega) (by omega) B b zs k _ H.out).mono ?_
  rintro e w' ⟨m, k', rfl, hm, hs, hg⟩
  have hm' : m < ss.length := by omega
  have hc : w'.cell? ⟨lb, m, none⟩ = some (.string (ss[m])) := hg.cell (strK_cell HL.out m hm') (fun e => hne (by injection e))
  have HS := hidIt hs; have HG := hidIt hg; clear hs hg
  have hmem : Hid (ss[m] ∈ ss) := List.getElem_mem hm'
  generalize ss[m] = s at hc hmem
  go_wp2
  go_ret
  exact ⟨s, k', rfl, hmem.out, HS.out, HG.out⟩
end Go.Proofs.YtpiiadmjddikfaaDoor
