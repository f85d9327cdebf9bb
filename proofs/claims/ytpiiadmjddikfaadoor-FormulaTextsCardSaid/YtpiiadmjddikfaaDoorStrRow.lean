/- A row of strings that a call made. -/
import Derived.Test.YtpiiadmjddikfaaDoorTree
import Derived.Laws.MakeOwn
namespace Go.Proofs.YtpiiadmjddikfaaDoor
set_option linter.unusedVariables false
set_option linter.unusedSimpArgs false
open Go.RowKit

theorem ret_str' {a b : ByteArray} (h : a = b) : Ending.returned (.string a) = .returned (.string b) := by rw [h]

/-- Block b is a row of these strings. -/
def StrRow (w : World) (b : Nat) (l : List ByteArray) : Prop := w.heap[b]? = some (.cells (l.map Value.string).toArray 9 (0, 0))

theorem setCell_heap_self {w : World} {b k : Nat} {c : Array Value} {t : TypeId} (h : w.heap[b]? = some (.cells c t (0, 0))) (x : Value) : (w.setCell ⟨b, k, none⟩ x).heap[b]? = some (.cells (c.setIfInBounds k x) t (0, 0)) := by
  have hlt := lt_of_block h
  have h' : w.heap[b] = .cells c t (0, 0) := by simpa [Array.getElem?_eq_getElem hlt] using h
  show (w.heap.modify b _)[b]? = _
  rw [Array.getElem?_eq_getElem (by simpa using hlt), Array.getElem_modify_self, h']
  rfl

section
variable {w w' : World} {b : Nat} {l : List ByteArray}
theorem StrRow.lt (h : StrRow w b l) : b < w.heap.size := lt_of_block h
theorem StrRow.cell (h : StrRow w b l) (k : Nat) (hk : k < l.length) : w.cell? ⟨b, k, none⟩ = some (.string l[k]) := by
  unfold StrRow at h
  simp [World.cell?, h, hk]
theorem StrRow.free (h : StrRow w b l) (k : Nat) : w.frozen? ⟨b, k, none⟩ = false := free_any h k
theorem StrRow.set (h : StrRow w b l) (k : Nat) (s : ByteArray) : StrRow (w.setCell ⟨b, k, none⟩ (.string s)) b (l.set k s) := by
  unfold StrRow
  rw [setCell_heap_self h]
  simp
theorem StrRow.kept (h : StrRow w b l) (hb : Below w.heap.size w w') : StrRow w' b l := blk_kept h hb
theorem StrRow.alloc (h : StrRow w b l) (o : Obj) : StrRow (w.alloc o) b l := h.kept ((Below.refl _ _).alloc (Nat.le_refl _) o)
theorem StrRow.made (w : World) (n : Nat) : StrRow (w.alloc (.cells (madeCells #[.string ⟨#[]⟩] n) 9)) w.heap.size (List.replicate n ⟨#[]⟩) := by
  unfold StrRow
  rw [heap_alloc_new]
  have e : madeCells #[.string ⟨#[]⟩] n = ((List.replicate n (⟨#[]⟩ : ByteArray)).map Value.string).toArray := by
    apply Array.ext
    · simp [madeCells]
    · intro i h1 h2
      simp [madeCells, Nat.mod_one]
  rw [e]
end

theorem infoS' : (Tryd.prog.info? 9).map (fun i => (i.zero, i.size, i.bytes)) = some (some (.string ⟨#[]⟩), 1, 16) := by kernel_rfl

theorem make_strs' (n : Nat) (hn : n ≤ 1000000000) (w : World) : (Instr.makeSlice 42 (.int .i64 (n : Int)) (.int .i64 (n : Int))).run Tryd.prog w = .ok (.slice (some ⟨w.heap.size, 0, none⟩) n n) (w.alloc (.cells (madeCells #[.string ⟨#[]⟩] n) 9)) := by
  obtain ⟨i0, hi, hz0, hz1, hz2⟩ := info_parts infoS'
  have hr := run_make (P := Tryd.prog) w 42 9 i0 _ Tryd.underlying42 hi hz0 .i64 .i64 (n : Int) (n : Int) (by omega) (by omega) (by rw [hz2]; omega) (by omega)
  rw [hz1] at hr
  simp only [Int.toNat_natCast, Nat.mul_one] at hr
  exact hr
end Go.Proofs.YtpiiadmjddikfaaDoor
