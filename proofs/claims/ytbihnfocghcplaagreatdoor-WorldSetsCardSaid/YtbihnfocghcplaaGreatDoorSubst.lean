/- Copies of formulas with new arguments: withArgs, clone and Substitute. -/
import Derived.Test.YtbihnfocghcplaaGreatDoorValue2
import Derived.Test.YtbihnfocghcplaaGreatDoorRelT
import Derived.Laws.MakeOwn
namespace Go.Proofs.YtbihnfocghcplaaGreatDoor
set_option linter.unusedVariables false
set_option linter.unusedSimpArgs false
open Go Go.RowKit

/-- Block b is a row of these headers. -/
def FRow (w : World) (b : Nat) (hs : List Hd) : Prop := w.heap[b]? = some (.cells (flatF hs).toArray 24 (0, 0))

theorem flatF_set : ∀ (hs : List Hd) (k : Nat) (h : Hd), k < hs.length → flatF (hs.set k h) = (((flatF hs).set (k * 3) (.int .i64 h.op)).set (k * 3 + 1) (.string h.name)).set (k * 3 + 2) (.slice h.a h.n h.c)
  | x :: l, 0, h, _ => by simp [flatF, Hd.cells]
  | x :: l, k + 1, h, hk => by
    have ih := flatF_set l k h (by simpa using hk)
    have e0 : (k + 1) * 3 = k * 3 + 3 := by omega
    have e1 : (k + 1) * 3 + 1 = (k * 3 + 1) + 3 := by omega
    have e2 : (k + 1) * 3 + 2 = (k * 3 + 2) + 3 := by omega
    rw [e1, e2, e0]
    simp only [List.set_cons_succ, flatF, Hd.cells, ih, List.cons_append, List.nil_append]

section
variable {w w' : World} {b : Nat} {hs : List Hd}
theorem FRow.free (h : FRow w b hs) (k : Nat) : w.frozen? ⟨b, k, none⟩ = false := free_any h k
theorem FRow.lt (h : FRow w b hs) : b < w.heap.size := lt_of_block h
theorem FRow.kept (h : FRow w b hs) (hb : Below w.heap.size w w') : FRow w' b hs := blk_kept h hb
theorem FRow.set (h : FRow w b hs) (k : Nat) (hk : k < hs.length) (x : Hd) : FRow (((w.setCell ⟨b, k * 3, none⟩ (.int .i64 x.op)).setCell ⟨b, k * 3 + 1, none⟩ (.string x.name)).setCell ⟨b, k * 3 + 2, none⟩ (.slice x.a x.n x.c)) b (hs.set k x) := by
  unfold FRow
  rw [setCell_heap_self (setCell_heap_self (setCell_heap_self h _) _) _, flatF_set hs k x hk]
  simp
theorem FRow.cell (h : FRow w b hs) (k j : Nat) (hk : k < hs.length) (hj : j < 3) : w.cell? ⟨b, k * 3 + j, none⟩ = (hs[k]).cells[j]? := by
  have h1 := flatF_get hs k j hk hj
  have h2 : w.cell? ⟨b, k * 3 + j, none⟩ = (flatF hs)[k * 3 + j]? := by
    unfold FRow at h
    simp [World.cell?, h]
  rw [h2, h1]
end

theorem made_flat (n : Nat) : madeCells #[.int .i64 0, .string ⟨#[]⟩, .slice none 0 0] (n * 3) = (flatF (List.replicate n (⟨0, ⟨#[]⟩, none, 0, 0⟩ : Hd))).toArray := by
  apply Array.ext
  · rw [size_madeCells]
    simp [flatF_len]
  · intro i h1 h2
    rw [size_madeCells] at h1
    obtain ⟨q, j, rfl, hj⟩ : ∃ q j, i = q * 3 + j ∧ j < 3 := ⟨i / 3, i % 3, by omega, by omega⟩
    have hq : q < n := by omega
    have h3 := flatF_get (List.replicate n (⟨0, ⟨#[]⟩, none, 0, 0⟩ : Hd)) q j (by simpa using hq) hj
    have h4 : (flatF (List.replicate n (⟨0, ⟨#[]⟩, none, 0, 0⟩ : Hd)))[q * 3 + j]? = some ((flatF (List.replicate n (⟨0, ⟨#[]⟩, none, 0, 0⟩ : Hd)))[q * 3 + j]'(by simpa using h2)) := List.getElem?_eq_getElem _
    rw [h4] at h3
    have e : (q * 3 + j) % 3 = j := by omega
    simp only [madeCells, Array.getElem_map, Array.getElem_range, List.getElem_toArray]
    have h5 : some ((flatF (List.replicate n (⟨0, ⟨#[]⟩, none, 0, 0⟩ : Hd)))[q * 3 + j]'(by simpa using h2)) = some (#[Value.int .i64 0, .string ⟨#[]⟩, .slice none 0 0][(q * 3 + j) % 3]!) := by
      rw [h3, e]
      have : j = 0 ∨ j = 1 ∨ j = 2 := by omega
      rcases this with rfl | rfl | rfl <;> simp [Hd.cells]
    injection h5 with h5
    exact h5.symm

theorem infoF3 : (Tryz.prog.info? 24).map (fun i => (i.zero, i.size, i.bytes)) = some (some (.agg #[.int .i64 0, .string ⟨#[]⟩, .slice none 0 0]), 3, 48) := infoF

theorem make_forms (n : Nat) (hn : n ≤ 1000000) (w : World) : (Instr.makeSlice 22 (.int .i64 (n : Int)) (.int .i64 (n : Int))).run Tryz.prog w = .ok (.slice (some ⟨w.heap.size, 0, none⟩) n n) (w.alloc (.cells (flatF (List.replicate n (⟨0, ⟨#[]⟩, none, 0, 0⟩ : Hd))).toArray 24)) := by
  obtain ⟨i0, hi, hz0, hz1, hz2⟩ := info_parts infoF3
  have hr := run_make (P := Tryz.prog) w 22 24 i0 _ Tryz.underlying22 hi hz0 .i64 .i64 (n : Int) (n : Int) (by omega) (by omega) (by rw [hz2]; omega) (by omega)
  rw [hz1] at hr
  simp only [Int.toNat_natCast] at hr
  rw [← made_flat n]
  exact hr

/-- A formula that the call made: all of it is new. -/
def FMade (w : World) (t : Tree) (e : Ending) (w' : World) : Prop := ∃ (o : Int) (s : ByteArray) (a : Option Addr) (n c : Nat), e = .returned (.agg #[.int .i64 o, .string s, .slice a n c]) ∧ FormIn w' (fun i => w.heap.size ≤ i) (.agg #[.int .i64 o, .string s, .slice a n c]) t ∧ Below w.heap.size w w'

/-- The first k arguments are made. -/
def Filled (w : World) (b : Nat) (hs : List Hd) (us : List Tree) (k : Nat) : Prop := ∀ i (h : i < hs.length) (h' : i < us.length), i < k → FormIn w (fun j => b < j) (hs[i]).val us[i]

theorem Filled.forms {w : World} {b : Nat} {hs : List Hd} {us : List Tree} (h : Filled w b hs us us.length) (hr : FRow w b hs) (hl : hs.length = us.length) : FormsIn w (fun j => b ≤ j) (some ⟨b, 0, none⟩) us := by
  refine ⟨b, 0, fun _ => ⟨rfl, Nat.le_refl _⟩, fun i hi => ?_⟩
  have hi' : i < hs.length := by omega
  have hf := h i hi' hi hi
  obtain ⟨e1, e2, e3⟩ := FormIn.shape (show FormIn w _ (.agg #[.int .i64 (hs[i]).op, .string (hs[i]).name, .slice (hs[i]).a (hs[i]).n (hs[i]).c]) us[i] from hf)
  have g0 := hr.cell i 0 hi' (by omega)
  have g1 := hr.cell i 1 hi' (by omega)
  have g2 := hr.cell i 2 hi' (by omega)
  simp only [Hd.cells, List.getElem?_cons_zero, List.getElem?_cons_succ, e1, e2, e3] at g0 g1 g2
  refine ⟨(hs[i]).a, (hs[i]).c, by simpa using g0, by simpa using g1, by simpa using g2, ?_⟩
  have h4 := FormIn.mono (S' := fun j => b ≤ j) hf (fun j _ hj => Nat.le_of_lt hj)
  simp only [Hd.val, e1, e2, e3] at h4
  exact h4

theorem below_of_row2 {w w1 w2 : World} {b : Nat} (h : Below w.heap.size w w1) (hg : w1.grownBy w2 (some b)) (hB : w.heap.size ≤ b) : Below w.heap.size w w2 :=
  ⟨hg.os.trans h.os, hg.tape.trans h.tape, hg.output.trans h.output, Nat.le_trans h.size hg.size, fun i hi =>
    (hg.block i (Nat.lt_of_lt_of_le hi h.size) (fun e => by injection e with e; omega)).trans (h.block i hi)⟩

theorem set_row (w : World) (b k : Nat) (x y z : Value) : w.grownBy (((w.setCell ⟨b, k, none⟩ x).setCell ⟨b, k + 1, none⟩ y).setCell ⟨b, k + 2, none⟩ z) (some b) :=
  only_setCell (p := ⟨b, k + 2, none⟩) (only_setCell (p := ⟨b, k + 1, none⟩) (only_setCell (p := ⟨b, k, none⟩) (only_refl w (some b)) (.inl rfl) x) (.inl rfl) y) (.inl rfl) z

theorem Filled.kept {w w' : World} {b : Nat} {hs : List Hd} {us : List Tree} {k : Nat} (h : Filled w b hs us k) (hg : w.grownBy w' (some b)) : Filled w' b hs us k := fun i hi hi' hk =>
  FormIn.kept (h i hi hi' hk) fun j hj hl => hg.block j hl (fun e => by injection e with e; omega)
theorem Filled.step {w w' : World} {b : Nat} {hs : List Hd} {us : List Tree} {k : Nat} {x : Hd} (h : Filled w b hs us k) (hg : w.grownBy w' (some b)) (hk : k < us.length) (hx : FormIn w (fun j => b < j) x.val us[k]) : Filled w' b (hs.set k x) us (k + 1) := by
  intro i hi hi' hik
  by_cases e : i = k
  · subst e
    rw [List.getElem_set_self]
    exact FormIn.kept hx fun j hj hl => hg.block j hl (fun e => by injection e with e; omega)
  · rw [List.getElem_set_ne (fun h => e h.symm)]
    exact (h.kept hg) i (by simpa using hi) hi' (by omega)

set_option maxRecDepth 100000 in
set_option maxHeartbeats 1000000 in
theorem withArgs_any (f : Nat) (cap : Array Value) (hcf : Enters f) (q : Tree → Tree) (op : Int) (name : ByteArray) (ts : List Tree) (a : Option Addr) (cp : Nat) (hn : ts.length ≤ 1000000) (w : World) (h : FormAt w none (.agg #[.int .i64 op, .string name, .slice a ts.length cp]) (.node op name ts))
    (hq : ∀ t ∈ ts, ∀ (v : Value) (w' : World), Below w.heap.size w w' → FormAt w' none v t → Calls Tryz.prog f (#[v] ++ cap) w' (FMade w' (q t))) :
    Calls Tryz.prog 60 #[.agg #[.int .i64 op, .string name, .slice a ts.length cp], .func (.func f) #[] cap] w (FMade w (.node op name (ts.map q))) := by
  have HW := hidIt h
  obtain ⟨a0, cp0, b0, off0, e0, hop, hname, hlen, hcp, -, -⟩ := h.form
  simp only [Tree.op_node, Tree.name_node, Tree.args_node] at hop hname hlen
  clear e0
  have HF : Hid (FormsAt w none a ts) := FormIn.forms h
  have HQ := hidIt hq
  have hmk := make_forms ts.length hn
  have HOP := hidIt hop
  have HNM := hidIt hname
  clear h hq hop hname hlen hcp
  go_enter Tryz.func60, Tryz.ntmps60
  go_wp2_with fail
  have HB0 : Hid (Below w.heap.size w (((w.alloc (.cells #[.int .i64 op, .string name, .slice a ts.length cp] 24)).alloc (.cells #[.int .i64 0, .string ⟨#[]⟩, .slice none 0 0] 24)).alloc (.cells (flatF (List.replicate ts.length (⟨0, ⟨#[]⟩, none, 0, 0⟩ : Hd))).toArray 24))) := (((Below.refl _ _).alloc (Nat.le_refl _) _).alloc (by simp) _).alloc (by simp; omega) _
  have HX0 : Hid ((((w.alloc (.cells #[.int .i64 op, .string name, .slice a ts.length cp] 24)).alloc (.cells #[.int .i64 0, .string ⟨#[]⟩, .slice none 0 0] 24)).alloc (.cells (flatF (List.replicate ts.length (⟨0, ⟨#[]⟩, none, 0, 0⟩ : Hd))).toArray 24)).heap[w.heap.size]? = some (.cells #[.int .i64 op, .string name, .slice a ts.length cp] 24 (0, 0))) := blk_kept (blk_kept (heap_alloc_new w _) (Grows.alloc _ _)) (Grows.alloc _ _)
  have HY0 : Hid ((((w.alloc (.cells #[.int .i64 op, .string name, .slice a ts.length cp] 24)).alloc (.cells #[.int .i64 0, .string ⟨#[]⟩, .slice none 0 0] 24)).alloc (.cells (flatF (List.replicate ts.length (⟨0, ⟨#[]⟩, none, 0, 0⟩ : Hd))).toArray 24)).heap[w.heap.size + 1]? = some (.cells #[.int .i64 0, .string ⟨#[]⟩, .slice none 0 0] 24 (0, 0))) := blk_kept (heap_alloc_at (by simp)) (Grows.alloc _ _)
  have HR0 : Hid (FRow (((w.alloc (.cells #[.int .i64 op, .string name, .slice a ts.length cp] 24)).alloc (.cells #[.int .i64 0, .string ⟨#[]⟩, .slice none 0 0] 24)).alloc (.cells (flatF (List.replicate ts.length (⟨0, ⟨#[]⟩, none, 0, 0⟩ : Hd))).toArray 24)) (w.heap.size + 1 + 1) (List.replicate ts.length (⟨0, ⟨#[]⟩, none, 0, 0⟩ : Hd))) := heap_alloc_at (by simp)
  clear hmk
  unfold Enters at hcf
  go_loopw [15] (fun i wr => ∃ (k : Nat) (hs : List Hd), k ≤ ts.length ∧ i = .int .i64 k ∧ Hid (hs.length = ts.length) ∧ Hid (FRow wr (w.heap.size + 1 + 1) hs) ∧ Hid (Filled wr (w.heap.size + 1 + 1) hs (ts.map q) k) ∧ Hid (wr.heap[w.heap.size]? = some (.cells #[.int .i64 op, .string name, .slice a ts.length cp] 24 (0, 0))) ∧
    Hid (wr.heap[w.heap.size + 1]? = some (.cells #[.int .i64 0, .string ⟨#[]⟩, .slice none 0 0] 24 (0, 0))) ∧ Hid (Below w.heap.size w wr)) (fun i _ => ts.length - (intOf i).toNat)
  case atStart => exact ⟨0, _, Nat.zero_le _, rfl, List.length_replicate, HR0, (fun i hi hi' hk => by omega), HX0, HY0, HB0⟩
  case round =>
    clear HB0 HX0 HY0 HR0
    obtain ⟨k, hs, hk, rfl, hlen, hrow, hfill, hbx, hby, hbel⟩ := hrel
    by_cases hlt : k < ts.length
    · obtain ⟨b', off', a', c', rfl, c0, c1, c2, hf⟩ := (HF.out.go hbel.out).at k hlt
      have hm : ts[k] ∈ ts := List.getElem_mem hlt
      have hqk : Hid ((ts.map q)[k]? = some (q ts[k])) := by show _ = _; simp [hlt]
      have HF1 := hidIt hf
      clear hf
      generalize ts[k] = t at *
      go_wp2_with fail
      have hbc : Below wr.heap.size wr (wr.alloc (.cells #[.int .i64 t.op, .string t.name, .slice a' t.args.length c'] 24)) := Grows.alloc _ _
      refine (HQ.out t hm _ _ (hbel.out.trans (hbc.mono hbel.out.size)) (FormAt.go HF1.out hbc)).mono ?_
      rintro e w2 ⟨ro, rs, ra, rn, rc, rfl, hf2, hb2⟩
      have hb2' : Below wr.heap.size wr w2 := below_box hb2
      have HR2 := hidIt (hrow.out.kept hb2')
      have HL2 := hidIt (hfill.out.kept (only_of_below hb2' _))
      have HBX2 := hidIt (blk_kept hbx.out hb2')
      have HBY2 := hidIt (blk_kept hby.out hb2')
      have HB2 := hidIt (hbel.out.trans (hb2'.mono hbel.out.size))
      have hnb : w.heap.size + 1 + 1 < wr.heap.size := hrow.out.lt
      have HF2 : Hid (FormIn w2 (fun j => w.heap.size + 1 + 1 < j) (.agg #[.int .i64 ro, .string rs, .slice ra rn rc]) (q t)) := hf2.mono fun j _ hj => by simp at hj; omega
      have hlen2 := hlen.out
      have q0 : w2.cell? ⟨w.heap.size + 1 + 1, k * 3, none⟩ = (hs[k]'(by omega)).cells[0]? := HR2.out.cell k 0 (by omega) (by omega)
      have q1 : w2.cell? ⟨w.heap.size + 1 + 1, k * 3 + 1, none⟩ = (hs[k]'(by omega)).cells[1]? := HR2.out.cell k 1 (by omega) (by omega)
      have q2 : w2.cell? ⟨w.heap.size + 1 + 1, k * 3 + 2, none⟩ = (hs[k]'(by omega)).cells[2]? := HR2.out.cell k 2 (by omega) (by omega)
      have f0 := HR2.out.free (k * 3)
      have f1 := HR2.out.free (k * 3 + 1)
      have f2 := HR2.out.free (k * 3 + 2)
      simp only [Hd.cells, List.getElem?_cons_zero, List.getElem?_cons_succ] at q0 q1 q2
      clear hf2 hb2 hb2' hbc c0 c1 c2
      go_wp2_with fail
      go_roundw
      case rel =>
        have hg := set_row w2 (w.heap.size + 1 + 1) (k * 3) (.int .i64 ro) (.string rs) (.slice ra rn rc)
        have hku : k < (ts.map q).length := by simpa using hlt
        have he : (ts.map q)[k] = q t := by
          have := hqk.out
          rw [List.getElem?_eq_getElem hku] at this
          injection this
        refine ⟨k + 1, hs.set k ⟨ro, rs, ra, rn, rc⟩, by omega, by go_num, by show _ = _; rw [List.length_set]; exact hlen.out, HR2.out.set k (by omega) ⟨ro, rs, ra, rn, rc⟩, HL2.out.step hg hku (by rw [he]; exact HF2.out), ?_, ?_, below_of_row2 HB2.out hg (by omega)⟩
        · show _ = _
          rw [hg.block _ (lt_of_block HBX2.out) (fun e => by injection e with e; omega)]
          exact HBX2.out
        · show _ = _
          rw [hg.block _ (lt_of_block HBY2.out) (fun e => by injection e with e; omega)]
          exact HBY2.out
      case measure => simp [intOf]; omega
    · obtain rfl : k = ts.length := by omega
      obtain ⟨x0, x1, x2⟩ := cell_of3 hbx.out
      obtain ⟨y0, y1, y2⟩ := cell_of3 hby.out
      obtain ⟨z0, z1, z2⟩ := cells_free hby.out
      have hly := lt_of_block hby.out
      go_wp2_with fail
      refine bodyPost_ret (v := .agg #[.int .i64 op, .string name, .slice (some ⟨w.heap.size + 1 + 1, 0, none⟩) ts.length ts.length]) (by simp [results, Tryz.results60, go_sem, y0, y1, y2, hly]) rfl ?_
      have h3 := set_three wr (w.heap.size + 1) (.int .i64 op) (.string name) (.slice (some ⟨w.heap.size + 1 + 1, 0, none⟩) ts.length ts.length)
      have hmap : (ts.map q).length = ts.length := List.length_map _
      have hfs := Filled.forms (hs := hs) (us := ts.map q) (by rw [hmap]; exact hfill.out) hrow.out (by rw [hmap]; exact hlen.out)
      refine ⟨op, name, _, _, _, rfl, FormIn.mk (FormsIn.mono (FormsIn.kept hfs (fun i hi hl => h3.block i hl (fun e => by injection e with e; omega))) (fun i _ hi => by omega)) hmap.symm HOP.out HNM.out (by rw [hmap]; exact Nat.le_refl _) (by unfold maxLen; omega), below_of_row2 hbel.out h3 (by omega)⟩

theorem enters_clone : Enters 59 := enters_of Tryz.func59 (by kernel_rfl) rfl

/-- What is left when a made formula has been stored as a result in block R. -/
theorem FMade.stored {w w0 w2 : World} {R : Nat} {t : Tree} {o : Int} {s : ByteArray} {a : Option Addr} {n c : Nat} (h0 : Below w.heap.size w w0) (hR : w.heap.size ≤ R) (hR2 : R < w0.heap.size) (hf : FormIn w2 (fun i => w0.heap.size ≤ i) (.agg #[.int .i64 o, .string s, .slice a n c]) t) (hb : Below w0.heap.size w0 w2) :
    FMade w t (.returned (.agg #[.int .i64 o, .string s, .slice a n c])) (((w2.setCell ⟨R, 0, none⟩ (.int .i64 o)).setCell ⟨R, 1, none⟩ (.string s)).setCell ⟨R, 2, none⟩ (.slice a n c)) := by
  have h3 := set_three w2 R (.int .i64 o) (.string s) (.slice a n c)
  exact ⟨o, s, a, n, c, rfl, FormIn.mono (FormIn.kept hf fun i hi hl => h3.block i hl (fun e => by injection e with e; omega)) (fun i _ hi => Nat.le_trans h0.size hi), below_of_row2 (h0.trans (hb.mono h0.size)) h3 hR⟩

set_option maxRecDepth 100000 in
set_option maxHeartbeats 1000000 in
theorem clone_any : ∀ t : Tree, t.nodes ≤ 1000000 → ∀ (v : Value) (w : World), FormAt w none v t → Calls Tryz.prog 59 #[v] w (FMade w t) := by
  refine Tree.ind fun op name ts ih hn v w h => ?_
  obtain ⟨a, cp, b, off, rfl, -⟩ := h.form
  simp only [Tree.op_node, Tree.name_node, Tree.args_node]
  have hnodes : ∀ t ∈ ts, t.nodes ≤ 1000000 := fun t ht => by
    have := nodes_mem_le ht
    simp only [Tree.nodes] at hn
    omega
  have hl : ts.length ≤ 1000000 := by
    have := nodes_len_le ts
    simp only [Tree.nodes] at hn
    omega
  have HIH := hidIt (fun t ht => ih t ht (hnodes t ht))
  have HH := hidIt h
  clear ih h hnodes hn
  simp only [Tree.op_node, Tree.name_node, Tree.args_node] at HH
  go_enter Tryz.func59, Tryz.ntmps59
  go_wp2_with fail
  have HB0 : Hid (Below w.heap.size w ((w.alloc (.cells #[.int .i64 op, .string name, .slice a ts.length cp] 24)).alloc (.cells #[.int .i64 0, .string ⟨#[]⟩, .slice none 0 0] 24))) := ((Below.refl _ _).alloc (Nat.le_refl _) _).alloc (by simp) _
  have HY0 : Hid (((w.alloc (.cells #[.int .i64 op, .string name, .slice a ts.length cp] 24)).alloc (.cells #[.int .i64 0, .string ⟨#[]⟩, .slice none 0 0] 24)).heap[w.heap.size + 1]? = some (.cells #[.int .i64 0, .string ⟨#[]⟩, .slice none 0 0] 24 (0, 0))) := heap_alloc_at (by simp)
  refine (withArgs_any 59 #[] enters_clone id op name ts a cp hl _ (FormAt.go HH.out HB0.out) (fun t ht v w' _ hf => ?_)).mono ?_
  · exact HIH.out t ht v w' hf
  rintro e w2 ⟨ro, rs, ra, rn, rc, rfl, hf2, hb2⟩
  rw [List.map_id] at hf2
  have HF2 := hidIt hf2
  have HB2 := hidIt hb2
  have HY2 := hidIt (blk_kept HY0.out hb2)
  obtain ⟨y0, y1, y2⟩ := cell_of3 HY2.out
  obtain ⟨z0, z1, z2⟩ := cells_free HY2.out
  have hly := lt_of_block HY2.out
  clear hf2 hb2
  go_wp2_with fail
  refine bodyPost_ret (v := .agg #[.int .i64 ro, .string rs, .slice ra rn rc]) (by simp [results, Tryz.results59, go_sem, y0, y1, y2, hly]) rfl ?_
  exact FMade.stored HB0.out (by omega) (by simp) HF2.out HB2.out
end Go.Proofs.YtbihnfocghcplaaGreatDoor
