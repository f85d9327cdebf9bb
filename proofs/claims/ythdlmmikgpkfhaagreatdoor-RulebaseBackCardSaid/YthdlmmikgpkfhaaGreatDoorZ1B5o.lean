/- strings.Builder: copyCheck, WriteString at this seat. -/
import Derived.Test.YthdlmmikgpkfhaaGreatDoorZ1B5j
import Derived.Lib.Builder

namespace Go.Proofs.YthdlmmikgpkfhaaGreatDoor
set_option linter.unusedVariables false
set_option linter.unusedSimpArgs false
open Go Go.RowKit

theorem infoBd : (Tryz.prog.info? 140).map (·.size) = some 2 := by kernel_rfl
theorem info_bd : ∃ j, Tryz.prog.info? 140 = some j ∧ j.size = 2 := by
  have h := infoBd
  cases hj : Tryz.prog.info? 140 with
  | none => rw [hj] at h; cases h
  | some j =>
    rw [hj] at h
    exact ⟨j, rfl, by simpa using h⟩
theorem lies_bd : liesAt Tryz.prog Tryz.prog.depth 140 (2 / Tryz.prog.cellsOf 140) 0 140 1 = true := by kernel_rfl

theorem to_unsafe {w : World} {b : Nat} (hs : w.shape? b = some (140, 2)) : (convert 138 193 (.pointer (some ⟨b, 0, none⟩))).run Tryz.prog w = .ok (.pointer (some ⟨b, 0, none⟩)) w := by
  obtain ⟨j, hj, hz⟩ := info_bd
  exact Lib.run_to_unsafe w ⟨b, 0, none⟩ Tryz.underlying138 Tryz.underlying193 hj (by rw [hz]; decide) hs (by show 0 < 2; decide)
theorem from_unsafe {w : World} {b : Nat} (hs : w.shape? b = some (140, 2)) : (convert 193 138 (.pointer (some ⟨b, 0, none⟩))).run Tryz.prog w = .ok (.pointer (some ⟨b, 0, none⟩)) w := by
  obtain ⟨j, hj, hz⟩ := info_bd
  exact Lib.run_from_unsafe w ⟨b, 0, none⟩ Tryz.underlying193 Tryz.underlying138 hj hs lies_bd
theorem neq_self {w : World} {b : Nat} : (binOp .neq 138 (.pointer (some ⟨b, 0, none⟩)) (.pointer (some ⟨b, 0, none⟩))).run Tryz.prog w = .ok (.bool false) w := by
  obtain ⟨j, hj, hz⟩ := info_bd
  exact Lib.run_neq_ptr_same w ⟨b, 0, none⟩ Tryz.underlying138 hj

set_option maxRecDepth 100000 in
theorem copyCheck_fresh (B b : Nat) (bs : List Value) (w : World) (h : Lib.BuilderAt 140 5 B b (.pointer none) bs w) :
    Calls Tryz.prog 161 #[.pointer (some ⟨b, 0, none⟩)] w fun e w' => e = .returned (.tuple #[]) ∧ w' = w.setCell ⟨b, 0, none⟩ (.pointer (some ⟨b, 0, none⟩)) := by
  have c0 := h.cell0
  have f0 := h.frozen0
  have lb := h.lt
  have hs := h.shape
  have u1 := to_unsafe hs
  have u2 := from_unsafe hs
  have u3 : ∀ w : World, (binOp .neq 138 (.pointer (some ⟨b, 0, none⟩)) (.pointer (some ⟨b, 0, none⟩))).run Tryz.prog w = .ok (.bool false) w := fun w => neq_self
  clear h
  go_enter Tryz.func161, Tryz.ntmps161
  go_wp2_with fail
  rw [run_callFunc_extern Tryz.func191 (by kernel_rfl) (by kernel_rfl) (by kernel_rfl) (e := Extern.AbiNoEscape.same) (by kernel_rfl)]
  rw [Lib.run_noEscape]
  simp only [Result.andThen]
  rw [Oper.upon_value]
  go_wp2_with fail
  go_end0
  exact ⟨rfl, rfl⟩

set_option maxRecDepth 100000 in
theorem copyCheck_used (B b : Nat) (bs : List Value) (w : World) (h : Lib.BuilderAt 140 5 B b (.pointer (some ⟨b, 0, none⟩)) bs w) :
    Calls Tryz.prog 161 #[.pointer (some ⟨b, 0, none⟩)] w fun e w' => e = .returned (.tuple #[]) ∧ w' = w := by
  have c0 := h.cell0
  have lb := h.lt
  have u3 : ∀ w : World, (binOp .neq 138 (.pointer (some ⟨b, 0, none⟩)) (.pointer (some ⟨b, 0, none⟩))).run Tryz.prog w = .ok (.bool false) w := fun w => neq_self
  clear h
  go_enter Tryz.func161, Tryz.ntmps161
  go_wp2_with fail
  go_end0
  exact ⟨rfl, rfl⟩

/-- What copyCheck leaves. -/
theorem copyCheck_any (B b : Nat) (bs : List Value) (w : World) (h : Lib.IsBuilder 140 5 B b bs w) :
    Calls Tryz.prog 161 #[.pointer (some ⟨b, 0, none⟩)] w fun e w' => e = .returned (.tuple #[]) ∧ Lib.BuilderAt 140 5 B b (.pointer (some ⟨b, 0, none⟩)) bs w' ∧ Below B w w' := by
  rcases h with h | h
  · refine (copyCheck_fresh B b bs w h).mono ?_
    rintro e w' ⟨rfl, rfl⟩
    exact ⟨rfl, h.used _, (Below.refl _ _).setCell (p := ⟨b, 0, none⟩) h.1 _⟩
  · refine (copyCheck_used B b bs w h).mono ?_
    rintro e w' ⟨rfl, rfl⟩
    exact ⟨rfl, h, Below.refl _ _⟩

theorem infoB8 : (Tryz.prog.info? 5).map (fun i => (i.zero, i.size, i.bytes)) = some (some (.int .u8 0), 1, 1) := by kernel_rfl

set_option maxRecDepth 100000 in
set_option maxHeartbeats 2000000 in
/-- A text is written behind what the builder holds. -/
theorem write_any (B b : Nat) (bs : List Value) (s : ByteArray) (w : World) (h : Lib.IsBuilder 140 5 B b bs w) (hl : bs.length + s.size ≤ 1000000000) (hB : B ≤ w.heap.size) :
    Calls Tryz.prog 125 #[.pointer (some ⟨b, 0, none⟩), .string s] w fun e w' => e = .returned (.tuple #[.int .i64 s.size, .nilIface]) ∧ Lib.IsBuilder 140 5 B b (bs ++ Lib.strCells s) w' ∧ Below B w w' := by
  obtain ⟨i8, hi8, z0, z1, z2⟩ := info_parts infoB8
  have HH := hidIt h
  clear h
  go_enter Tryz.func125, Tryz.ntmps125
  go_wp2_with fail
  refine (copyCheck_any B b bs w HH.out).mono ?_
  rintro e w1 ⟨rfl, ⟨hBb, v, hblk, hown, hne⟩, hg1⟩
  have e1 : w1.cell? ⟨b, 1, none⟩ = some v := by rw [Lib.cell_of_heap hblk]; rfl
  have lb := lt_of_block hblk
  have HO := hidIt hown
  have HBK := hidIt hblk
  have HG1 := hidIt hg1
  have hB1 : B ≤ w1.heap.size := Nat.le_trans hB hg1.size
  clear HH
  go_wp2_with (at_builtin; refine Lib.wpList_append_own_string _ rfl _ _ 48 9 rfl B 5 i8 Tryz.underlying48 Tryz.underlying9 hi8 z0 z1 z2 _ _ _ rfl HO.out s rfl ?small ?fits ?low ?_)
  case small => unfold maxLen; omega
  case fits => omega
  case low => exact hB1
  intro v2 w2 hown2 hg2 _
  have hk2 : w2.heap[b]? = some (.cells #[.pointer (some ⟨b, 0, none⟩), v] 140 (0, 0)) := (hg2.block b lb (fun e => hne e.symm)).trans HBK.out
  have HB2 := hidIt (Lib.BuilderAt.put (T := 140) (e := 5) (p := .pointer (some ⟨b, 0, none⟩)) hBb hk2 (bs' := bs ++ Lib.strCells s) (by simpa [Lib.strCells_length] using hown2) (by decide))
  have HG2 := hidIt ((HG1.out.grown hg2 hB1 (fun k hk => (HO.out.lt k hk).1)).setCell (p := ⟨b, 1, none⟩) hBb v2)
  have f1 := Lib.frozen_of_heap hk2 1
  have e2 : w2.cell? ⟨b, 1, none⟩ = some v := by rw [Lib.cell_of_heap hk2]; rfl
  have lb2 := lt_of_block hk2
  obtain ⟨ad, ln, cp, rfl⟩ : ∃ ad ln cp, v2 = .slice ad ln cp := by
    rcases hown2.2 with ⟨hv, _⟩ | ⟨_, _, _, hv, _⟩
    · exact ⟨_, _, _, hv⟩
    · exact ⟨_, _, _, hv⟩
  clear hown2 hg2 hk2 hown hblk
  go_wp2_with fail
  go_ret2
  exact ⟨rfl, .inr HB2.out, HG2.out⟩

end Go.Proofs.YthdlmmikgpkfhaaGreatDoor
