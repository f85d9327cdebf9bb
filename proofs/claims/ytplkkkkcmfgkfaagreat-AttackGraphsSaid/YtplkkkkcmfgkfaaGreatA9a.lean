/- The chapter's two arguments: two leaves of the base of two premises. -/
import Derived.Test.YtplkkkkcmfgkfaaGreatG9W
import Derived.LoopN
import Derived.Handy
namespace Go.Proofs.YtplkkkkcmfgkfaaGreat
set_option linter.unusedVariables false
set_option linter.unusedSimpArgs false
open Go Go.RowKit Go.Sort

/-- The block's first cells are these. -/
def CR (w : World) (b : Nat) (vs : List Value) : Prop := b < w.heap.size ∧ ∀ j u, vs[j]? = some u → w.cell? ⟨b, j, none⟩ = some u
theorem CR.go {w w' : World} {b : Nat} {vs : List Value} (h : CR w b vs) (hb : Below w.heap.size w w') : CR w' b vs :=
  ⟨Nat.lt_of_lt_of_le h.1 hb.size, fun j u hj => (Below.cell (p := ⟨b, j, none⟩) hb h.1).trans (h.2 j u hj)⟩
theorem CR.new (w : World) (vs : List Value) (t : TypeId) : CR (w.alloc (.cells vs.toArray t (0, 0))) w.heap.size vs :=
  ⟨by simp, fun j u hj => by
    have h := heap_alloc_new w (.cells vs.toArray t (0, 0))
    show (match (w.alloc (.cells vs.toArray t (0, 0))).heap[w.heap.size]? with | some (.cells c _ _) => c[j]? | _ => none) = some u
    rw [h]
    simpa using hj⟩
theorem CR.at_ {w : World} {b : Nat} {vs : List Value} (h : CR w b vs) (j : Nat) (u : Value) (hj : vs[j]? = some u) : w.cell? ⟨b, j, none⟩ = some u := h.2 j u hj

/-- The two premises, the two arguments. -/
def premC : List Value := [.bool false, .string ⟨#[112]⟩, .int .i64 2, .int .i64 1, .string ⟨#[]⟩, .bool true, .string ⟨#[112]⟩, .int .i64 2, .int .i64 2, .string ⟨#[]⟩]
def argC : List Value := [.int .i64 0, .int .i64 (-1), .slice none 0 0, .bool false, .string ⟨#[112]⟩, .int .i64 1, .int .i64 (-1), .slice none 0 0, .bool true, .string ⟨#[112]⟩]

theorem arIdx_any (i n : Int) (w : World) : Calls Tryz.prog 78 #[.int .i64 i, .int .i64 n] w fun e w' => e = .returned (.bool (ixB i n)) ∧ w' = w := by
  unfold ixB
  by_cases h1 : 0 ≤ i <;> by_cases h2 : i < n
  all_goals (
    go_enter Tryz.func78, Tryz.ntmps78
    go_wp2_with fail
    go_ret
    exact ⟨ret_bool (by simp [h1, h2]), rfl⟩)
theorem liIdx_any (i n : Int) (w : World) : Calls Tryz.prog 61 #[.int .i64 i, .int .i64 n] w fun e w' => e = .returned (.bool (ixB i n)) ∧ w' = w := by
  unfold ixB
  by_cases h1 : 0 ≤ i <;> by_cases h2 : i < n
  all_goals (
    go_enter Tryz.func61, Tryz.ntmps61
    go_wp2_with fail
    go_ret
    exact ⟨ret_bool (by simp [h1, h2]), rfl⟩)

theorem subs1_any (p r : Int) (s : Value) (hs : s = .slice none 0 0) (g : Bool) (nm : ByteArray) (w : World) :
    Calls Tryz.prog 58 #[.agg #[.int .i64 p, .int .i64 r, s, .bool g, .string nm]] w fun e w' => e = .returned (.bool true) ∧ Below w.heap.size w w' := by
  subst hs
  go_enter Tryz.func58, Tryz.ntmps58
  go_wp2_with fail
  go_ret
  exact ⟨rfl, by go_grown⟩

theorem mark_nil (v : Value) (w : World) :
    Calls Tryz.prog 79 #[v, .slice none 0 0] w fun e w' => e = .returned (.tuple #[]) ∧ w' = w := by
  go_enter Tryz.func79, Tryz.ntmps79
  go_wp2_with fail
  go_rounds 1
  go_returns
  exact ⟨rfl, rfl⟩

theorem rev_one (a : Option Addr) (c : Nat) (w : World) :
    Calls Tryz.prog 80 #[.slice a 1 c] w fun e w' => e = .returned (.tuple #[]) ∧ w' = w := by
  go_enter Tryz.func80, Tryz.ntmps80
  go_wp2_with fail
  go_rounds 1
  go_returns
  exact ⟨rfl, rfl⟩

theorem run1_leaf (p : Int) (g : Bool) (nm : ByteArray) (m : Nat) (pa : Option Addr) (pc : Nat) (w : World) (h : CR w m [.slice pa 2 pc, .slice none 0 0, .slice none 0 0]) :
    Calls Tryz.prog 116 #[.agg #[.int .i64 p, .int .i64 (-1), .slice none 0 0, .bool g, .string nm], .pointer (some ⟨m, 0, none⟩)] w fun e w' => e = .returned (.bool false) ∧ Below w.heap.size w w' := by
  have hgr := bgrow w (.cells #[.int .i64 p, .int .i64 (-1), .slice none 0 0, .bool g, .string nm] 72)
  have HB := hidIt hgr
  have HX := hidIt (heap_alloc_new w (.cells #[.int .i64 p, .int .i64 (-1), .slice none 0 0, .bool g, .string nm] 72))
  have H1 := hidIt (h.go hgr)
  clear hgr h
  go_enter Tryz.func116, Tryz.ntmps116
  go_upto_region 1 with (fail)
  generalize (w.alloc (.cells #[.int .i64 p, .int .i64 (-1), .slice none 0 0, .bool g, .string nm] 72)) = w1 at *
  obtain ⟨P, hP⟩ : ∃ P, P = w.heap.size := ⟨_, rfl⟩
  have HP := hidIt hP
  rw [← hP] at HB HX ⊢
  clear hP
  have x0 : w1.cell? ⟨P, 0, none⟩ = some (.int .i64 p) := by simp [World.cell?, HX.out]
  have x1 : w1.cell? ⟨P, 1, none⟩ = some (.int .i64 (-1)) := by simp [World.cell?, HX.out]
  have lx := lt_of_block HX.out
  have y0 := H1.out.at_ 0 _ rfl
  have y1 := H1.out.at_ 1 _ rfl
  have ly := H1.out.1
  go_wp2_with fail
  refine (arIdx_any (-1) 0 _).mono ?_
  rintro e w2 ⟨rfl, rfl⟩
  rw [show ixB (-1) 0 = false from rfl]
  go_wp2_with fail
  go_ret
  exact ⟨rfl, by first | exact HB.out | (rw [HP.out] at HB; exact HB.out)⟩
end Go.Proofs.YtplkkkkcmfgkfaaGreat
