/- The calls that build a literal which is often not valid (package keep). -/
import Derived.Test.YtfcoplplkbeljaaGreatDoorLit
namespace Go.Proofs.YtfcoplplkbeljaaGreatDoor
set_option linter.unusedVariables false
set_option linter.unusedSimpArgs false
open Go.RowKit

theorem sn_nat (n : Int) (hn : 1 ≤ n) (hn' : n ≤ 9223372036854775807) (B b : Nat) (zs : List Int) (k : Nat) (w : World) (h : SrcAt w B b zs k) :
    Calls Tryz.prog 14 #[.pointer (some ⟨b, 0, none⟩), .int .i64 n] w fun e w' => ∃ (m k' : Nat), e = .returned (.int .i64 (m : Int)) ∧ (m : Int) < n ∧ SrcAt w' B b zs k' ∧ w.grownBy w' (some b) :=
  (sn_any n hn hn' B b zs k w h).mono fun e w' ⟨z, k', he, ⟨h0, h1⟩, hs, hg⟩ => by
    obtain ⟨m, rfl⟩ : ∃ m : Nat, z = (m : Int) := ⟨z.toNat, by omega⟩
    exact ⟨m, k', he, h1, hs, hg⟩

/-- A list of strings that has been laid whole. -/
def strRow (ss : List ByteArray) : Array Value := (ss.map Value.string).toArray

theorem str_cell {w : World} {lb : Nat} {ss : List ByteArray} (h : w.heap[lb]? = some (.cells (strRow ss) 9 (0, 0))) (m : Nat) (hm : m < ss.length) : w.cell? ⟨lb, m, none⟩ = some (.string (ss[m])) := by
  simp [World.cell?, h, strRow, hm]

set_option maxHeartbeats 400000 in
theorem text_any (lb : Nat) (ss : List ByteArray) (hss : 1 ≤ ss.length) (hss' : ss.length ≤ 1000) (B b : Nat) (zs : List Int) (k : Nat) (w : World) (h : SrcAt w B b zs k) (hl : w.heap[lb]? = some (.cells (strRow ss) 9 (0, 0))) (hne : lb ≠ b) :
    Calls Tryz.prog 15 #[.pointer (some ⟨b, 0, none⟩), .slice (some ⟨lb, 0, none⟩) ss.length ss.length] w fun e w' => ∃ (s : ByteArray) (k' : Nat), e = .returned (.string s) ∧ s ∈ ss ∧ SrcAt w' B b zs k' ∧ w.grownBy w' (some b) := by
  have H := hidIt h
  have HL := hidIt hl
  clear h hl
  go_enter Tryz.func15, Tryz.ntmps15
  go_wp2_with fail
  refine (sn_nat _ (by omega) (by omega) B b zs k _ H.out).mono ?_
  rintro e w' ⟨m, k', rfl, hm, hs, hg⟩
  have hm' : m < ss.length := by omega
  have hc : w'.cell? ⟨lb, m, none⟩ = some (.string (ss[m])) := hg.cell (str_cell HL.out m hm') (fun e => hne (by injection e))
  have HS := hidIt hs; have HG := hidIt hg; clear hs hg
  have hmem : Hid (ss[m] ∈ ss) := List.getElem_mem hm'
  generalize ss[m] = s at hc hmem
  go_wp2
  go_ret
  exact ⟨s, k', rfl, hmem.out, HS.out, HG.out⟩

/-- The texts that Odd chooses from. -/
def oddS : List ByteArray := [⟨#[]⟩, ⟨#[97]⟩, ⟨#[65]⟩, ⟨#[97, 49, 95]⟩, ⟨#[49, 97]⟩, ⟨#[95, 97]⟩, ⟨#[97, 98, 99, 100, 101, 102, 103, 104, 105, 106, 107, 108]⟩, ⟨#[97, 98, 99, 100, 101, 102, 103, 104, 105, 106, 107, 108, 109]⟩, ⟨#[97, 126]⟩, ⟨#[126, 97]⟩, ⟨#[97, 32, 98]⟩]

theorem odd_size : ∀ s ∈ oddS, s.size ≤ 200 := by decide

set_option maxHeartbeats 1000000 in
set_option maxRecDepth 100000 in
theorem odd_any (B b : Nat) (zs : List Int) (k : Nat) (w : World) (h : SrcAt w B b zs k) :
    Calls Tryz.prog 64 #[.pointer (some ⟨b, 0, none⟩)] w fun e w' => ∃ (g : Bool) (s : ByteArray) (k' : Nat), e = .returned (.agg #[.bool g, .string s]) ∧ s.size ≤ 200 ∧ SrcAt w' B b zs k' ∧ w.grownBy w' (some b) := by
  have hlt := h.lt
  have hbB : B ≤ w.heap.size := by have := h.base; omega
  have H := hidIt h
  clear h
  go_enter Tryz.func64, Tryz.ntmps64
  go_wp2_with fail
  refine (sn_nat 2 (by omega) (by omega) B b zs k _ (H.out.alloc _)).mono ?_
  rintro e w1 ⟨m, k', rfl, hm, hs, hg⟩
  have hblk := hidIt (laid_two hg (by simp; omega))
  have hsz : w.heap.size < w1.heap.size := by have := hg.size; simp at this; omega
  have HS := hidIt hs
  have HG := hidIt (only_below hg)
  clear hs hg
  go_wp2_with fail
  refine (text_any w1.heap.size oddS (by decide) (by decide) B b zs k' _ (HS.out.alloc _) (heap_alloc_new w1 _) (by omega)).mono ?_
  rintro e w2 ⟨s, k2, rfl, hmem, hs2, hg2⟩
  have hss := odd_size s hmem
  have hb2 : w2.heap[w.heap.size]? = some (.cells #[.bool false, .string ⟨#[]⟩] 46 (0, 0)) := by
    rw [hg2.block w.heap.size (by simp; omega) (fun e => by injection e with e; omega), Below.heap_alloc w1 _ _ hsz]
    exact hblk.out
  have HG2 := hidIt (only_trans (only_alloc HG.out _) hg2)
  have HS2 := hidIt hs2
  have c0 := cell_two0 hb2
  have c1 := cell_two1 hb2
  have f0 := free_any hb2 0
  have f1 := free_any hb2 1
  have hz2 := lt_of_block hb2
  clear hs2 hg2 hb2 hmem
  go_wp2
  refine bodyPost_ret (v := .agg #[.bool ((m : Int) == 1), .string s]) (by simp [results, Tryz.results64, go_sem, c0, c1, hz2]) rfl ?_
  refine ⟨_, s, k2, rfl, hss, ?_, ?_⟩
  · exact (HS2.out.setCell _ _ hbB (Nat.ne_of_gt hlt)).setCell _ _ hbB (Nat.ne_of_gt hlt)
  · exact only_setCell (only_setCell HG2.out (.inr (Nat.le_refl _)) _) (.inr (Nat.le_refl _)) _
end Go.Proofs.YtfcoplplkbeljaaGreatDoor
