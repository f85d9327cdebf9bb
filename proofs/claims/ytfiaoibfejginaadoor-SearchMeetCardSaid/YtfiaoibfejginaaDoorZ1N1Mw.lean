/- What the laws of chapter 13 keep of memory; what follows for lists. -/
import Derived.Test.YtfiaoibfejginaaDoorNew
import Derived.Test.YtfiaoibfejginaaDoorG1I
import Derived.Test.YtfiaoibfejginaaDoorZ1R
import Derived.BigQuiet

namespace Go.Proofs.YtfiaoibfejginaaDoor
set_option linter.unusedVariables false
set_option linter.unusedSimpArgs false
open Go Go.RowKit Go.Sort

/-- The law's graph lies in its box; the library's table lies. -/
structure LW (w0 : World) (G N : Nat) (a : Option Addr) (c : Nat) (ps : List (Int × Int)) (w : World) : Prop where
  x : w.heap[G]? = some (.cells #[.int .i64 (N : Int), .slice a ps.length c] 24 (0, 0))
  p : PairsAt w (.slice a ps.length c) ps
  t : Tab w
  b : Below w0.heap.size w0 w
theorem LW.go {w0 : World} {G N : Nat} {a : Option Addr} {c : Nat} {ps : List (Int × Int)} {w w' : World} (h : LW w0 G N a c ps w) (hb : Below w.heap.size w w') : LW w0 G N a c ps w' :=
  ⟨blk_kept2 h.x hb, h.p.below hb, h.t.go hb, h.b.trans (Below.mono hb h.b.size)⟩
theorem LW.c0 {w0 : World} {G N : Nat} {a : Option Addr} {c : Nat} {ps : List (Int × Int)} {w : World} (h : LW w0 G N a c ps w) : w.cell? ⟨G, 0, none⟩ = some (.int .i64 (N : Int)) := cell_two0 h.x
theorem LW.c1 {w0 : World} {G N : Nat} {a : Option Addr} {c : Nat} {ps : List (Int × Int)} {w : World} (h : LW w0 G N a c ps w) : w.cell? ⟨G, 1, none⟩ = some (.slice a ps.length c) := cell_two1 h.x
theorem LW.l {w0 : World} {G N : Nat} {a : Option Addr} {c : Nat} {ps : List (Int × Int)} {w : World} (h : LW w0 G N a c ps w) : G < w.heap.size := lt_of_block h.x
theorem below_read13 {w a a' : World} {b : Nat} (h : Below b w a) (hg : a.grownBy a' (some b)) (hna : b ≤ a.heap.size) : Below b w a' := below_app5 h hg (fun g e => by injection e with e; omega) hna

section
variable {N : Nat} {ps : List (Int × Int)} (hix : ∀ p ∈ ps, (0 ≤ p.1 ∧ p.1 < (N : Int)) ∧ (0 ≤ p.2 ∧ p.2 < (N : Int)))
include hix
end
end Go.Proofs.YtfiaoibfejginaaDoor
