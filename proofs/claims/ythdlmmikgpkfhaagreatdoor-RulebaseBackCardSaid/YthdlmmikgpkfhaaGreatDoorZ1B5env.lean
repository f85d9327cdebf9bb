/- What the package's tables and the library's variables hold while the calls run. -/
import Derived.Test.YthdlmmikgpkfhaaGreatDoorZ1B
import Derived.Lib.LaidTab
import Derived.Shelf.Unicode.IsSpaceAny
import Derived.Shelf.Strings.Fields
import Derived.WalkSmall

namespace Go.Proofs.YthdlmmikgpkfhaaGreatDoor
set_option linter.unusedVariables false
set_option linter.unusedSimpArgs false
open Go Go.RowKit

/-- The package's table of words lies as it was laid. -/
structure WordsAt (w : World) : Prop where
  lt : 1 < w.heap.size
  c0 : w.cell? ⟨1, 0, none⟩ = some (.string ⟨#[]⟩)
  c1 : w.cell? ⟨1, 1, none⟩ = some (.string ⟨#[97, 120, 105, 111, 109]⟩)
  c2 : w.cell? ⟨1, 2, none⟩ = some (.string ⟨#[112, 114, 101, 109, 105, 115, 101]⟩)
  c3 : w.cell? ⟨1, 3, none⟩ = some (.string ⟨#[97, 115, 115, 117, 109, 101]⟩)
theorem WordsAt.go {w w' : World} (h : WordsAt w) (hb : Below w.heap.size w w') : WordsAt w' :=
  ⟨Nat.lt_of_lt_of_le h.lt hb.size, (hb.cell (p := ⟨1, 0, none⟩) h.lt).trans h.c0, (hb.cell (p := ⟨1, 1, none⟩) h.lt).trans h.c1, (hb.cell (p := ⟨1, 2, none⟩) h.lt).trans h.c2, (hb.cell (p := ⟨1, 3, none⟩) h.lt).trans h.c3⟩


theorem gAscii : Tryz.prog.globalNamed "strings.asciiSpace" = some 2 := by kernel_rfl
/-- The tables of words and of spaces, and the two errors of package strconv. -/
structure EnvOk (w : World) : Prop where
  words : WordsAt w
  e5 : ∃ t p, w.cell? ⟨5, 0, none⟩ = some (.iface t p)
  e6 : ∃ t p, w.cell? ⟨6, 0, none⟩ = some (.iface t p)
  tab : Lib.TabIs Tryz.prog w "strings.asciiSpace" .u8 Lib.asciiSpaceTab
  white : Lib.WhiteTab 3 w
theorem lt_of_cellE {w : World} {a : Addr} {v : Value} (hc : w.cell? a = some v) : a.block < w.heap.size := by
  rcases Nat.lt_or_ge a.block w.heap.size with h' | h'
  · exact h'
  · simp [World.cell?, Array.getElem?_eq_none h'] at hc
theorem EnvOk.go {w w' : World} (h : EnvOk w) (hb : Below w.heap.size w w') : EnvOk w' := by
  obtain ⟨h1, ⟨t5, p5, h5⟩, ⟨t6, p6, h6⟩, h3, h4⟩ := h
  have ha := h3.cell gAscii 0 (by rw [Lib.asciiSpaceTab_length]; omega)
  exact ⟨h1.go hb, ⟨t5, p5, (hb.cell (lt_of_cellE h5)).trans h5⟩, ⟨t6, p6, (hb.cell (lt_of_cellE h6)).trans h6⟩, var?_below hb gAscii (lt_of_cellE ha) h3, WhiteTab_below h4 hb⟩
/-- What lies below block B is what lay there in a world in which they hold. -/
def EnvUp (B : Nat) (w : World) : Prop := ∃ w0, EnvOk w0 ∧ w0.heap.size = B ∧ Below B w0 w
theorem EnvUp.ok {B : Nat} {w : World} (h : EnvUp B w) : EnvOk w := by
  obtain ⟨w0, h1, h2, h3⟩ := h
  subst h2
  exact h1.go h3
theorem EnvUp.le {B : Nat} {w : World} (h : EnvUp B w) : B ≤ w.heap.size := by
  obtain ⟨w0, h1, h2, h3⟩ := h
  subst h2
  exact h3.size
theorem EnvUp.start {w : World} (h : EnvOk w) : EnvUp w.heap.size w := ⟨w, h, rfl, Below.refl _ _⟩
theorem EnvUp.kept {B : Nat} {w w' : World} {row : Option Nat} (h : EnvUp B w) (hg : w.grownBy w' row) (hr : ∀ g, row = some g → B ≤ g) : EnvUp B w' := by
  have hle := h.le
  obtain ⟨w0, h1, h2, h3⟩ := h
  exact ⟨w0, h1, h2, hg.os.trans h3.os, hg.tape.trans h3.tape, hg.output.trans h3.output, Nat.le_trans h3.size hg.size, fun k hk => (hg.block k (by omega) (fun e => by have := hr k e.symm; omega)).trans (h3.block k hk)⟩
theorem EnvUp.go {B : Nat} {w w' : World} (h : EnvUp B w) (hb : Below B w w') : EnvUp B w' := by
  obtain ⟨w0, h1, h2, h3⟩ := h
  exact ⟨w0, h1, h2, h3.trans hb⟩
end Go.Proofs.YthdlmmikgpkfhaaGreatDoor
