/- The state of the rounds in memory; accept. reject: a node becomes Out, and its attacks are counted. rejectAttacked: the nodes that a node of the queue attacks become Out. -/
import Derived.Test.YtfiaoibfejginaaDoorZ4A
import Derived.Test.YtfiaoibfejginaaDoorZ4B
import Derived.BigRegion
import Derived.BigQuiet
import Derived.StillTailTactics

namespace Go.Proofs.YtfiaoibfejginaaDoor
set_option linter.unusedVariables false
set_option linter.unusedSimpArgs false
open Go Go.RowKit Go.Sort

/-- The cells of the struct. -/
def rCells (N : Int) (lv labv rkv qv : Value) (opn : List Int) : Array Value := (.int .i64 N :: lv :: labv :: rkv :: (opn.map (Value.int .i64) ++ [qv])).toArray
theorem rCells_open (N : Int) (lv labv rkv qv : Value) (opn : List Int) (t : Nat) (ht : t < opn.length) : (rCells N lv labv rkv qv opn)[4 + t]? = some (.int .i64 opn[t]) := by
  unfold rCells
  rw [List.getElem?_toArray, show 4 + t = t + 1 + 1 + 1 + 1 by omega]
  simp only [List.getElem?_cons_succ]
  rw [List.getElem?_append_left (by simpa using ht)]
  simp [ht]
theorem rCells_q (N : Int) (lv labv rkv qv : Value) (opn : List Int) (h : opn.length = 40) : (rCells N lv labv rkv qv opn)[44]? = some qv := by
  unfold rCells
  rw [List.getElem?_toArray]
  simp only [show 44 = 40 + 1 + 1 + 1 + 1 from rfl, List.getElem?_cons_succ]
  rw [List.getElem?_append_right (by simp [h])]
  simp [h]
theorem rCells_setO (N : Int) (lv labv rkv qv : Value) (opn : List Int) (t : Nat) (z : Int) (ht : t < opn.length) : (rCells N lv labv rkv qv opn).setIfInBounds (4 + t) (.int .i64 z) = rCells N lv labv rkv qv (opn.set t z) := by
  unfold rCells
  rw [List.setIfInBounds_toArray, show 4 + t = t + 1 + 1 + 1 + 1 by omega]
  simp only [List.set_cons_succ]
  rw [List.set_append_left _ _ (by simpa using ht), List.map_set]
theorem rCells_setQ (N : Int) (lv labv rkv qv : Value) (opn : List Int) (v : Value) (h : opn.length = 40) : (rCells N lv labv rkv qv opn).setIfInBounds 44 v = rCells N lv labv rkv v opn := by
  unfold rCells
  rw [List.setIfInBounds_toArray]
  simp only [show 44 = 40 + 1 + 1 + 1 + 1 from rfl, List.set_cons_succ]
  rw [List.set_append_right _ _ (by simp [h])]
  simp [h]
def intsN (l : List Nat) : List Int := l.map fun (i : Nat) => (i : Int)
theorem intsN_len (l : List Nat) : (intsN l).length = l.length := by simp [intsN]
/-- The state of the rounds lies at S; the labels at L, the ranks at R; the queue's row from K on; nothing of it is below B. -/
structure RS (B K S L R N : Nat) (a : Option Addr) (M c : Nat) (qa : Option Addr) (qc : Nat) (w : World) (s : QS) : Prop where
  box : w.heap[S]? = some (.cells (rCells N (.slice a M c) (.slice (some ⟨L, 0, none⟩) N N) (.slice (some ⟨R, 0, none⟩) N N) (.slice qa s.q.length qc) s.opn) 83 (0, 0))
  lab : IR w L s.lab
  rk : IR w R s.rk
  own : OwnI w K (.slice qa s.q.length qc) (intsN s.q)
  ord : B ≤ S ∧ B ≤ L ∧ B ≤ R ∧ S < K ∧ L < K ∧ R < K ∧ S ≠ L ∧ S ≠ R ∧ L ≠ R
section
variable {B K S L R N : Nat} {a : Option Addr} {M c : Nat} {qa : Option Addr} {qc : Nat} {w : World} {s : QS}
theorem RS.c0 (h : RS B K S L R N a M c qa qc w s) : w.cell? ⟨S, 0, none⟩ = some (.int .i64 (N : Int)) := by simp [World.cell?, h.box, rCells]
theorem RS.c1 (h : RS B K S L R N a M c qa qc w s) : w.cell? ⟨S, 1, none⟩ = some (.slice a M c) := by simp [World.cell?, h.box, rCells]
theorem RS.c2 (h : RS B K S L R N a M c qa qc w s) : w.cell? ⟨S, 2, none⟩ = some (.slice (some ⟨L, 0, none⟩) N N) := by simp [World.cell?, h.box, rCells]
theorem RS.c3 (h : RS B K S L R N a M c qa qc w s) : w.cell? ⟨S, 3, none⟩ = some (.slice (some ⟨R, 0, none⟩) N N) := by simp [World.cell?, h.box, rCells]
theorem RS.co (h : RS B K S L R N a M c qa qc w s) {t : Nat} (ht : t < s.opn.length) : w.cell? ⟨S, 4 + t, none⟩ = some (.int .i64 s.opn[t]) := by simp only [World.cell?, h.box]; exact rCells_open _ _ _ _ _ _ t ht
theorem RS.cq (h : RS B K S L R N a M c qa qc w s) (ho : s.opn.length = 40) : w.cell? ⟨S, 44, none⟩ = some (.slice qa s.q.length qc) := by simp only [World.cell?, h.box]; exact rCells_q _ _ _ _ _ _ ho
theorem RS.lt (h : RS B K S L R N a M c qa qc w s) : S < w.heap.size := lt_of_block h.box
theorem RS.szB (h : RS B K S L R N a M c qa qc w s) : B ≤ w.heap.size := by have := h.lt; have := h.ord; omega
theorem RS.go (h : RS B K S L R N a M c qa qc w s) {w' : World} (hb : Below w.heap.size w w') : RS B K S L R N a M c qa qc w' s :=
  ⟨blk_kept2 h.box hb, h.lab.go hb, h.rk.go hb, h.own.go hb, h.ord⟩
theorem RS.ownlt (h : RS B K S L R N a M c qa qc w s) (g : Nat) (e : (Value.slice qa s.q.length qc).ownBlock = some g) : K ≤ g ∧ g < w.heap.size := owns_blk h.own g e
theorem RS.setL (h : RS B K S L R N a M c qa qc w s) (i : Nat) (z : Int) : RS B K S L R N a M c qa qc (w.setCell ⟨L, i, none⟩ (.int .i64 z)) ⟨s.lab.set i z, s.rk, s.opn, s.q⟩ := by
  obtain ⟨-, -, -, -, h5, -, h7, -, h9⟩ := h.ord
  exact ⟨(Below.heap_setCell w ⟨L, i, none⟩ _ S (by show S ≠ L; exact h7)).trans h.box, h.lab.set i z, (Below.heap_setCell w ⟨L, i, none⟩ _ R (by show R ≠ L; exact Ne.symm h9)).trans h.rk,
    owns_kept h.own fun g e => Below.heap_setCell w ⟨L, i, none⟩ _ g (by show g ≠ L; have := (h.ownlt g e).1; omega), h.ord⟩
theorem RS.setR (h : RS B K S L R N a M c qa qc w s) (i : Nat) (z : Int) : RS B K S L R N a M c qa qc (w.setCell ⟨R, i, none⟩ (.int .i64 z)) ⟨s.lab, s.rk.set i z, s.opn, s.q⟩ := by
  obtain ⟨-, -, -, -, h5, h6, h7, h8, h9⟩ := h.ord
  exact ⟨(Below.heap_setCell w ⟨R, i, none⟩ _ S (by show S ≠ R; exact h8)).trans h.box, (Below.heap_setCell w ⟨R, i, none⟩ _ L (by show L ≠ R; exact h9)).trans h.lab, h.rk.set i z,
    owns_kept h.own fun g e => Below.heap_setCell w ⟨R, i, none⟩ _ g (by show g ≠ R; have := (h.ownlt g e).1; omega), h.ord⟩
theorem RS.setO (h : RS B K S L R N a M c qa qc w s) {t : Nat} (ht : t < s.opn.length) (z : Int) : RS B K S L R N a M c qa qc (w.setCell ⟨S, 4 + t, none⟩ (.int .i64 z)) ⟨s.lab, s.rk, s.opn.set t z, s.q⟩ := by
  obtain ⟨-, -, -, h4, h5, h6, h7, h8, h9⟩ := h.ord
  refine ⟨?_, (Below.heap_setCell w ⟨S, 4 + t, none⟩ _ L (by show L ≠ S; exact Ne.symm h7)).trans h.lab, (Below.heap_setCell w ⟨S, 4 + t, none⟩ _ R (by show R ≠ S; exact Ne.symm h8)).trans h.rk,
    owns_kept h.own fun g e => Below.heap_setCell w ⟨S, 4 + t, none⟩ _ g (by show g ≠ S; have := (h.ownlt g e).1; omega), h.ord⟩
  have := set_cells (i := 4 + t) (u := .int .i64 z) h.box
  rw [rCells_setO _ _ _ _ _ _ t z ht] at this
  exact this
/-- A node is put at the end of the queue. -/
theorem RS.app (h : RS B K S L R N a M c qa qc w s) (ho : s.opn.length = 40) {w8 : World} {g8 c8 i : Nat} (hown : w8.ownsRow K 3 1 (.slice (some ⟨g8, 0, none⟩) (s.q.length + 1) c8) (s.q.length + 1) ((intsN s.q).map (Value.int .i64) ++ [.int .i64 (i : Int)])) (hg : w.grownBy w8 (Value.slice qa s.q.length qc).ownBlock) :
    RS B K S L R N a M c (some ⟨g8, 0, none⟩) c8 (w8.setCell ⟨S, 44, none⟩ (.slice (some ⟨g8, 0, none⟩) (s.q.length + 1) c8)) ⟨s.lab, s.rk, s.opn, s.q ++ [i]⟩ := by
  obtain ⟨-, -, -, h4, h5, h6, h7, h8, h9⟩ := h.ord
  have hOB : ∀ x, x < K → some x ≠ (Value.slice qa s.q.length qc).ownBlock := fun x hx e => by have := (h.ownlt x e.symm).1; omega
  have hS := (hg.block S (lt_of_block h.box) (hOB S h4)).trans h.box
  have hL := (hg.block L (lt_of_block h.lab) (hOB L h5)).trans h.lab
  have hR := (hg.block R (lt_of_block h.rk) (hOB R h6)).trans h.rk
  refine ⟨?_, (Below.heap_setCell w8 ⟨S, 44, none⟩ _ L (by show L ≠ S; exact Ne.symm h7)).trans hL, (Below.heap_setCell w8 ⟨S, 44, none⟩ _ R (by show R ≠ S; exact Ne.symm h8)).trans hR, ?_, h.ord⟩
  · have := set_cells (i := 44) (u := .slice (some ⟨g8, 0, none⟩) (s.q.length + 1) c8) hS
    rw [rCells_setQ _ _ _ _ _ _ _ ho] at this
    simp only [List.length_append, List.length_singleton]
    exact this
  · have hO : OwnI w8 K (.slice (some ⟨g8, 0, none⟩) (s.q.length + 1) c8) (intsN (s.q ++ [i])) := by
      unfold OwnI
      rw [show intsN (s.q ++ [i]) = intsN s.q ++ [(i : Int)] by simp [intsN], List.length_append, List.map_append, intsN_len]
      exact hown
    have e : (s.q ++ [i]).length = s.q.length + 1 := by simp
    show OwnI _ K (.slice (some ⟨g8, 0, none⟩) (s.q ++ [i]).length c8) _
    rw [e]
    exact owns_kept hO fun g eg => Below.heap_setCell w8 ⟨S, 44, none⟩ _ g (by show g ≠ S; have := (owns_blk hO g eg).1; omega)
theorem below_drew (n : Nat) (w : World) : Below n w w.drew := ⟨rfl, rfl, rfl, Nat.le_refl _, fun _ _ => rfl⟩
end

/-- The call leaves the rounds in the state s. -/
def ROut (B K S L R N : Nat) (a : Option Addr) (M c : Nat) (s : QS) (w : World) (e : Ending) (w' : World) : Prop := ∃ (qa : Option Addr) (qc : Nat) (v : Value), e = .returned v ∧ RS B K S L R N a M c qa qc w' s ∧ Below B w w'

set_option maxRecDepth 100000 in
set_option maxHeartbeats 4000000 in
theorem accept_any (B K S L R N : Nat) (a : Option Addr) (M c : Nat) (qa : Option Addr) (qc : Nat) (s : QS) (i : Nat) (r : Int) (w : World) (h : RS B K S L R N a M c qa qc w s) (hi : i < N) (hN : N ≤ 40) (hll : s.lab.length = N) (hrl : s.rk.length = N) (hol : s.opn.length = 40) (hq : s.q.length ≤ 1000000) (hK : K ≤ w.heap.size) :
    Calls Tryd.prog 60 #[.pointer (some ⟨S, 0, none⟩), .int .i64 (i : Int), .int .i64 r] w (ROut B K S L R N a M c (acc s i r) w) := by
  have HOL := hidIt hol
  have x2 := h.c2
  have x3 := h.c3
  have lx := h.lt
  have ll := h.lab.lt
  have lr := h.rk.lt
  have HA := hidIt ((h.setL i 1).setR i r)
  obtain ⟨hBS, hBL, hBR, hSK, hLK, hRK, hSL, hSR, hLR⟩ := h.ord
  have HORD := hidIt h.ord
  have hi0 : (0 : Int) ≤ (i : Int) := by omega
  have hiI : (i : Int) < (N : Int) := by omega
  obtain ⟨z1, hcL⟩ := h.lab.ex (i := i) (by omega)
  obtain ⟨z2, hcR⟩ := h.rk.ex (i := i) (by omega)
  have hfL := h.lab.free i
  have hcR2 : (w.setCell ⟨L, i, none⟩ (.int .i64 1)).cell? ⟨R, i, none⟩ = some (.int .i64 z2) := (World.cell?_of_block (w := w) (a := ⟨R, i, none⟩) (Below.heap_setCell w ⟨L, i, none⟩ _ R (by show R ≠ L; exact Ne.symm hLR))).trans hcR
  have hfR2 : (w.setCell ⟨L, i, none⟩ (.int .i64 1)).frozen? ⟨R, i, none⟩ = false := (h.setL i 1).rk.free i
  have HB2 : Hid (Below B w ((w.setCell ⟨L, i, none⟩ (.int .i64 1)).setCell ⟨R, i, none⟩ (.int .i64 r))) := below_set5 (below_set5 (Below.refl B w) hBL) hBR
  have HKS : Hid (K ≤ ((w.setCell ⟨L, i, none⟩ (.int .i64 1)).setCell ⟨R, i, none⟩ (.int .i64 r)).heap.size) := by
    show K ≤ _
    simpa using hK
  clear h
  go_enter Tryd.func60, Tryd.ntmps60
  go_wp2_with fail
  go_big_region
  have HA3 := hidIt (HA.out.go (below_drew _ _))
  have HB3 := hidIt (HB2.out.trans (below_drew B _))
  have HK3 : Hid (K ≤ (((w.setCell ⟨L, i, none⟩ (.int .i64 1)).setCell ⟨R, i, none⟩ (.int .i64 r)).drew).heap.size) := HKS.out
  clear x2 x3 lx ll lr HA hcL hcR hfL hcR2 hfR2 HB2 HKS hK
  generalize (((w.setCell ⟨L, i, none⟩ (.int .i64 1)).setCell ⟨R, i, none⟩ (.int .i64 r)).drew) = w3 at *
  have x44 := HA3.out.cq HOL.out
  have lx := HA3.out.lt
  have hgr := bgrow w3 (.cells #[.int .i64 (i : Int)] 3)
  have HA4 := hidIt (HA3.out.go hgr)
  have HB4 := hidIt (HB3.out.trans (Below.mono hgr HA3.out.szB))
  have HN4 := hidIt (heap_alloc_new w3 (.cells #[.int .i64 (i : Int)] 3))
  have hsz4 : K ≤ (w3.alloc (.cells #[.int .i64 (i : Int)] 3)).heap.size := Nat.le_trans HK3.out hgr.size
  have x44' := HA4.out.cq HOL.out
  clear hgr
  simp only at x44 x44'
  obtain ⟨q, hq'⟩ : ∃ q, q = s.q.length := ⟨_, rfl⟩
  have HQ := hidIt hq'
  have HO4 : Hid (World.ownsRow (w3.alloc (.cells #[.int .i64 (i : Int)] 3)) K 3 1 (.slice qa q qc) q ((intsN s.q).map (Value.int .i64))) := by
    have h := HA4.out.own
    unfold OwnI at h
    rw [intsN_len] at h
    rw [hq']
    exact h
  rw [← hq'] at x44 x44' hq
  clear hq'
  go_wp2_with (at_builtin; refine Hid.out ?_)
  refine hidIt ?_
  refine wpList_append_kb rfl (.tmp 23) (.tmp 25) elemI rfl K (.slice qa q qc) q _ rfl HO4.out _ 1 rfl #[.int .i64 (i : Int)] 3 HN4.out rfl (one_of (by rfl)) (by omega) hsz4 ?_
  intro g8 c8 w8 hown8 hg8 hbl8
  have hq' : q = s.q.length := HQ.out
  have HF : Hid (RS B K S L R N a M c (some ⟨g8, 0, none⟩) c8 (w8.setCell ⟨S, 44, none⟩ (.slice (some ⟨g8, 0, none⟩) (q + 1) c8)) (acc s i r)) := by
    subst hq'
    exact HA4.out.app HOL.out hown8 hg8
  have hB8 : Below B w w8 := below_app5 HB4.out hg8 (fun g e => by have := (owns_blk HO4.out g e).1; omega) HA4.out.szB
  have HBF : Hid (Below B w (w8.setCell ⟨S, 44, none⟩ (.slice (some ⟨g8, 0, none⟩) (q + 1) c8))) := below_set5 hB8 hBS
  have hS8 := (hg8.block S HA4.out.lt (fun e => by have := (owns_blk HO4.out S e.symm).1; omega)).trans HA4.out.box
  have k8 : w8.cell? ⟨S, 44, none⟩ = some (.slice qa q qc) := by
    rw [HQ.out]
    simp only [World.cell?, hS8]
    exact rCells_q _ _ _ _ _ _ HOL.out
  have f8 := free_any hS8 44
  have l8 := lt_of_block hS8
  clear hown8 hg8 hbl8 hB8 hS8 hq' x44 x44' hsz4 HO4 HN4 lx
  go_wp2_with fail
  go_end0
  exact ⟨_, _, _, rfl, HF.out, HBF.out⟩
end Go.Proofs.YtfiaoibfejginaaDoor

namespace Go.Proofs.YtfiaoibfejginaaDoor
set_option linter.unusedVariables false
set_option linter.unusedSimpArgs false
open Go Go.RowKit Go.Sort

/-- The graph's row has lain below B since it was read. -/
def GAt (B : Nat) (w : World) (a : Option Addr) (c : Nat) (ps : List (Int × Int)) : Prop := ∃ w0 : World, PairsAt w0 (.slice a ps.length c) ps ∧ w0.heap.size ≤ B ∧ Below w0.heap.size w0 w
theorem GAt.at_ {B : Nat} {w : World} {a : Option Addr} {c : Nat} {ps : List (Int × Int)} (h : GAt B w a c ps) : PairsAt w (.slice a ps.length c) ps := by
  obtain ⟨w0, h1, -, h3⟩ := h
  exact h1.below h3
theorem GAt.go {B : Nat} {w w' : World} {a : Option Addr} {c : Nat} {ps : List (Int × Int)} (h : GAt B w a c ps) (hb : Below B w w') : GAt B w' a c ps := by
  obtain ⟨w0, h1, h2, h3⟩ := h
  exact ⟨w0, h1, h2, h3.trans (Below.mono hb h2)⟩
theorem GAt.pcb {B : Nat} {w : World} {a : Option Addr} {c : Nat} {ps : List (Int × Int)} (h : GAt B w a c ps) : PCB B w a ps := by
  obtain ⟨w0, h1, h2, h3⟩ := h
  obtain ⟨a', c', he, hp⟩ := h1.pc
  injection he with he1 he2 he3
  subst he1
  rcases hp with hp | ⟨b, off, k1, k2, k3⟩
  · exact .inl hp
  · have hblk := h3.block b k2
    exact .inr ⟨b, off, k1, by omega, fun i hi => ⟨(World.cell?_of_block (w := w0) (w' := w) (a := ⟨b, off + i * 2, none⟩) hblk).trans (k3 i hi).1, (World.cell?_of_block (w := w0) (w' := w) (a := ⟨b, off + i * 2 + 1, none⟩) hblk).trans (k3 i hi).2⟩⟩
theorem outP_len (ps : List (Int × Int)) (j : Nat) : (outP ps j).length ≤ ps.length := List.length_filter_le _ _
theorem outs_len (ps : List (Int × Int)) (j : Nat) : (outs ps j).length = (outP ps j).length := by rw [← outP_outs, List.length_map]
theorem outP_get {N : Int} {ps : List (Int × Int)} (hok : GOk N ps) {j k : Nat} (hk : k < (outP ps j).length) (hk2 : k < (outs ps j).length) : ∃ g : Int, (outP ps j)[k] = (g, ((outs ps j)[k] : Int)) ∧ ((outs ps j)[k] : Int) < N := by
  have e : (outs ps j)[k] = ((outP ps j)[k]).2.toNat := by
    have : (outs ps j)[k] = ((outP ps j).map (fun p => p.2.toNat))[k]'(by rw [List.length_map]; exact hk) := rfl
    rw [this, List.getElem_map]
  have hm2 : (outP ps j)[k] ∈ ps := (List.mem_filter.1 (List.getElem_mem hk)).1
  have hm := hok.ix _ hm2
  exact ⟨((outP ps j)[k]).1, by rw [e]; exact Prod.ext rfl (by simp only; omega), by rw [e]; omega⟩
theorem foldl_take_succ {α β : Type} (f : β → α → β) (b : β) (l : List α) (k : Nat) (h : k < l.length) : (l.take (k + 1)).foldl f b = f ((l.take k).foldl f b) l[k] := by
  rw [List.take_succ_eq_append_getElem h, List.foldl_append]
  rfl
theorem BB.opI {N : Nat} {s : QS} {M : Int} (h : BB N s M) (hN : N ≤ 40) {t : Nat} (ht : t < N) (h2 : t < s.opn.length) : -M ≤ s.opn[t] ∧ s.opn[t] ≤ M ∧ s.opn.getD t 0 = s.opn[t] := by
  have h1 := h.ob t ht
  rw [List.getD_eq_getElem?_getD, List.getElem?_eq_getElem h2] at h1
  exact ⟨h1.1, h1.2, by rw [List.getD_eq_getElem?_getD, List.getElem?_eq_getElem h2]; rfl⟩

theorem below_drewN (n m : Nat) (w : World) : Below n w (w.drewN m) := ⟨rfl, rfl, rfl, Nat.le_refl _, fun _ _ => rfl⟩

set_option maxRecDepth 100000 in
set_option maxHeartbeats 4000000 in
theorem reject_any (B K S L R N : Nat) (a : Option Addr) (c : Nat) (ps : List (Int × Int)) (qa : Option Addr) (qc : Nat) (s : QS) (j : Nat) (r Mb : Int) (w : World) (h : RS B K S L R N a ps.length c qa qc w s) (hok : GOk (N : Int) ps) (hpl : ps.length ≤ 2000) (hg : GAt B w a c ps) (hj : j < N) (hbb : BB N s Mb) (hMb : Mb ≤ 900000) (hr1 : -Mb ≤ r) (hr2 : r ≤ Mb) (hK : K ≤ w.heap.size) :
    Calls Tryd.prog 76 #[.pointer (some ⟨S, 0, none⟩), .int .i64 (j : Int), .int .i64 r] w (ROut B K S L R N a ps.length c (rej ps s j r) w) := by
  have hN : N ≤ 40 := by have := hok.n40; omega
  have HOL := hidIt hbb.ol
  have x2 := h.c2
  have x3 := h.c3
  have lx := h.lt
  have ll := h.lab.lt
  have lr := h.rk.lt
  have HA := hidIt ((h.setL j 2).setR j r)
  obtain ⟨hBS, hBL, hBR, hSK, hLK, hRK, hSL, hSR, hLR⟩ := h.ord
  have hi0 : (0 : Int) ≤ (j : Int) := by omega
  have hiI : (j : Int) < (N : Int) := by omega
  obtain ⟨z1, hcL⟩ := h.lab.ex (i := j) (by rw [hbb.ll]; exact hj)
  obtain ⟨z2, hcR⟩ := h.rk.ex (i := j) (by rw [hbb.rl]; exact hj)
  have hfL := h.lab.free j
  have hcR2 : (w.setCell ⟨L, j, none⟩ (.int .i64 2)).cell? ⟨R, j, none⟩ = some (.int .i64 z2) := (World.cell?_of_block (w := w) (a := ⟨R, j, none⟩) (Below.heap_setCell w ⟨L, j, none⟩ _ R (by show R ≠ L; exact Ne.symm hLR))).trans hcR
  have hfR2 : (w.setCell ⟨L, j, none⟩ (.int .i64 2)).frozen? ⟨R, j, none⟩ = false := (h.setL j 2).rk.free j
  have hB2 : Below B w ((w.setCell ⟨L, j, none⟩ (.int .i64 2)).setCell ⟨R, j, none⟩ (.int .i64 r)) := below_set5 (below_set5 (Below.refl B w) hBL) hBR
  have HB2 := hidIt hB2
  have HG2 := hidIt (hg.go hB2)
  have HOK := hidIt hok
  have HBB := hidIt (bb_out hbb hj hr1 hr2)
  clear h hB2 hg hok hbb
  go_enter Tryd.func76, Tryd.ntmps76
  go_wp2_with fail
  go_big_region
  have HA3 := hidIt (HA.out.go (below_drew _ _))
  have HB3 := hidIt (HB2.out.trans (below_drew B _))
  have HG3 := hidIt (HG2.out.go (below_drew B _))
  clear x2 x3 lx ll lr HA hcL hcR hfL hcR2 hfR2 HB2 HG2
  generalize (((w.setCell ⟨L, j, none⟩ (.int .i64 2)).setCell ⟨R, j, none⟩ (.int .i64 r)).drew) = w3 at *
  have x0 := HA3.out.c0
  have x1 := HA3.out.c1
  have lx := HA3.out.lt
  go_wp2_with fail
  refine (attacksBy_any N j a c ps w3 HG3.out.at_ HOK.out (by omega) hj).mono ?_
  rintro e w4 ⟨va, vc, vi, vm, rfl, ho1, ho2, hb4⟩
  have HPB := hidIt (AttOut.pcb (HG3.out.go (Below.mono hb4 HA3.out.szB)).pcb ho1 ho2)
  have HA4 := hidIt (HA3.out.go hb4)
  have HB4 := hidIt (HB3.out.trans (Below.mono hb4 HA3.out.szB))
  have HKW : Hid (K ≤ w4.heap.size) := Nat.le_trans hK (HB4.out.size)
  have HDL := hidIt (outP_len ps j)
  have HOL2 := hidIt (outs_len ps j)
  obtain ⟨D, hD⟩ : ∃ D, D = (outP ps j).length := ⟨_, rfl⟩
  have HD := hidIt hD
  have hD2 : D ≤ 2000 := by have := HDL.out; omega
  rw [← hD]
  clear hD hb4 ho1 ho2 x0 x1 lx HA3 HB3 HG3 hK
  have hszB := HA4.out.szB
  have HSB := hidIt hszB
  clear hszB
  go_wp2_with fail
  go_loopw [7, 28] (fun _ v28 wr => ∃ (k : Nat) (qa : Option Addr) (qc : Nat), k ≤ D ∧ v28 = .int .i64 k ∧ Hid (RS B K S L R N a ps.length c qa qc wr (((outs ps j).take k).foldl (cnt r) ⟨s.lab.set j 2, s.rk.set j r, s.opn, s.q⟩)) ∧ Hid (BB N (((outs ps j).take k).foldl (cnt r) ⟨s.lab.set j 2, s.rk.set j r, s.opn, s.q⟩) (Mb + 2 * k)) ∧ Hid (Below B w4 wr)) (fun _ v28 _ => D - (intOf v28).toNat)
  case atStart => exact ⟨0, qa, qc, Nat.zero_le _, (by first | rfl | trivial), HA4.out, (by have h := HBB.out; rw [← Int.add_zero Mb] at h; exact h), Below.refl _ _⟩
  case round =>
    clear HA4 HBB
    obtain ⟨k, qa, qc, hk, rfl, HA, HBB, HB⟩ := hrel
    have hk0 : (0 : Int) ≤ (k : Int) := by omega
    by_cases hlt : k < D
    · have hkI : (k : Int) < (D : Int) := by omega
      have h1x : k < (outP ps j).length := by have := HD.out; omega
      have h2x : k < (outs ps j).length := by have := HOL2.out; omega
      obtain ⟨b1, o1, rfl, l1, hc1⟩ := (HPB.out.go HB.out (Nat.le_refl _) HSB.out).at_ h1x
      obtain ⟨p0, p1⟩ := hc1 k h1x
      obtain ⟨g, he, htN⟩ := outP_get HOK.out h1x h2x
      have HST := hidIt (foldl_take_succ (cnt r) ⟨s.lab.set j 2, s.rk.set j r, s.opn, s.q⟩ (outs ps j) k h2x)
      rw [he] at p0 p1
      simp only at p0 p1
      generalize ((outs ps j).take k).foldl (cnt r) ⟨s.lab.set j 2, s.rk.set j r, s.opn, s.q⟩ = sk at *
      generalize (outs ps j)[k] = t at *
      have htN' : t < N := by omega
      have ht40 : t < 40 := by omega
      have ht0 : (0 : Int) ≤ (t : Int) := by omega
      have htI : (t : Int) < 40 := by omega
      have hto : t < sk.opn.length := by rw [HBB.out.ol]; exact ht40
      obtain ⟨hz1, hz2, hz3⟩ := HBB.out.opI hN htN' hto
      have lb1 : b1 < wr.heap.size := by have := HA.out.szB; omega
      have hgr := bgrow wr (.cells #[.int .i64 g, .int .i64 (t : Int)] 45)
      have HQ := hidIt (heap_alloc_new wr (.cells #[.int .i64 g, .int .i64 (t : Int)] 45))
      have HA5 := hidIt (HA.out.go hgr)
      have HB5 := hidIt (HB.out.trans (Below.mono hgr HA.out.szB))
      have hSQ : wr.heap.size ≠ S := by have := HA.out.lt; omega
      clear hc1 he hgr HA HB h1x h2x
      go_upto_region 4 with (fail)
      generalize (wr.alloc (.cells #[.int .i64 g, .int .i64 (t : Int)] 45)) = w5 at *
      generalize wr.heap.size = Q at *
      clear p0 p1 l1 lb1
      obtain ⟨y0, y1⟩ := And.intro (cell_two0 HQ.out) (cell_two1 HQ.out)
      have ly := lt_of_block HQ.out
      have xo := HA5.out.co hto
      have lx := HA5.out.lt
      have fo := free_any HA5.out.box (4 + t)
      have HC := hidIt (show cnt r sk t = if sk.opn[t] - 1 = 0 then acc ⟨sk.lab, sk.rk, sk.opn.set t (sk.opn[t] - 1), sk.q⟩ t (r + 1) else ⟨sk.lab, sk.rk, sk.opn.set t (sk.opn[t] - 1), sk.q⟩ by unfold cnt; rw [hz3])
      have HBS := hidIt (bb_opn HBB.out hN htN')
      rw [hz3] at HBS
      have HBC := hidIt (bb_cnt (r := r) HBB.out hN htN' (by omega) (by omega))
      have HSO := hidIt (fun z => HA5.out.setO hto z)
      generalize sk.opn[t] = o at *
      clear hz3
      have hwr : IntKind.i64.wrap (o - 1) = o - 1 := IntWalk.i64_in _ (by omega)
      have HA6 := hidIt (HSO.out (o - 1))
      have HB6 : Hid (Below B w4 (w5.setCell ⟨S, 4 + t, none⟩ (.int .i64 (o - 1)))) := below_set5 HB5.out hBS
      have HQ6 := hidIt ((Below.heap_setCell w5 ⟨S, 4 + t, none⟩ (.int .i64 (o - 1)) Q (by show Q ≠ S; exact hSQ)).trans HQ.out)
      go_big_region
      have HA7 := hidIt (HA6.out.go (below_drew _ _))
      have HB7 := hidIt (HB6.out.trans (below_drew B _))
      have HQ7 : Hid (((w5.setCell ⟨S, 4 + t, none⟩ (.int .i64 (o - 1))).drew).heap[Q]? = some (.cells #[.int .i64 g, .int .i64 (t : Int)] 45 (0, 0))) := HQ6.out
      clear y0 y1 ly xo lx fo HA6 HB6 HQ6 HSO HA5 HB5 HQ
      generalize ((w5.setCell ⟨S, 4 + t, none⟩ (.int .i64 (o - 1))).drew) = w7 at *
      obtain ⟨y0, y1⟩ := And.intro (cell_two0 HQ7.out) (cell_two1 HQ7.out)
      have ly := lt_of_block HQ7.out
      have xo := HA7.out.co (t := t) (by simpa using hto)
      have lx := HA7.out.lt
      simp only [List.getElem_set_self] at xo
      by_cases ho : o - 1 = 0
      · have HC2 := hidIt (HC.out.trans (if_pos ho))
        rw [ho] at HA7 HC2 HBS xo
        clear ho HC
        go_wp2_with fail
        go_quiet (fail)
        have HA8 := hidIt (HA7.out.go (below_drewN _ nq _))
        have HB8 := hidIt (HB7.out.trans (below_drewN B nq _))
        have HQ8 : Hid ((w7.drewN nq).heap[Q]? = some (.cells #[.int .i64 g, .int .i64 (t : Int)] 45 (0, 0))) := HQ7.out
        clear y0 y1 ly xo lx HA7 HB7 HQ7
        generalize w7.drewN nq = w8 at *
        obtain ⟨y0, y1⟩ := And.intro (cell_two0 HQ8.out) (cell_two1 HQ8.out)
        have ly := lt_of_block HQ8.out
        have hwr2 : IntKind.i64.wrap (r + 1) = r + 1 := IntWalk.i64_in _ (by omega)
        have HBS2 := hidIt HBS.out
        have HQB : Hid ((sk.q.length : Int) ≤ 1000000) := by show _ ≤ _; have h := HBB.out.qb; omega
        go_wp2_with fail
        refine (accept_any B K S L R N a ps.length c qa qc _ t (r + 1) w8 HA8.out htN' hN HBS2.out.ll HBS2.out.rl HBS2.out.ol (by have h := HQB.out; show sk.q.length ≤ 1000000; omega) (Nat.le_trans HKW.out (HB8.out.size))).mono ?_
        rintro e w9 ⟨qa9, qc9, v9, rfl, ha9, hb9⟩
        have HA9 := hidIt ha9
        have HB9 := hidIt (HB8.out.trans hb9)
        clear ha9 hb9 HA8 HB8 HQ8
        go_wp2_with fail
        go_roundw
        case rel => exact ⟨k + 1, qa9, qc9, by omega, by go_num, by rw [HST.out, HC2.out]; exact HA9.out, by rw [HST.out]; exact BB.mono HBC.out (by omega), HB9.out⟩
        case measure => simp [intOf]; omega
      · have HC2 := hidIt (HC.out.trans (if_neg ho))
        have hob : (o - 1 == 0) = false := beq_eq_false_iff_ne.2 ho
        clear ho HC
        go_wp2_with fail
        go_quiet (fail)
        have HA8 := hidIt (HA7.out.go (below_drewN _ nq _))
        have HB8 := hidIt (HB7.out.trans (below_drewN B nq _))
        clear y0 y1 ly xo lx HA7 HB7 HQ7
        generalize w7.drewN nq = w8 at *
        go_wp2_with fail
        go_roundw
        case rel => exact ⟨k + 1, qa, qc, by omega, by go_num, by rw [HST.out, HC2.out]; exact HA8.out, by rw [HST.out]; exact BB.mono HBC.out (by omega), HB8.out⟩
        case measure => simp [intOf]; omega
    · obtain rfl : k = D := by omega
      have hkI : ¬ (k : Int) < (k : Int) := by omega
      go_wp2_with fail
      go_end0
      refine ⟨qa, qc, _, rfl, ?_, HB4.out.trans HB.out⟩
      have h := HA.out
      rw [List.take_of_length_le (by rw [HOL2.out, ← HD.out]; exact Nat.le_refl _)] at h
      exact h
end Go.Proofs.YtfiaoibfejginaaDoor

namespace Go.Proofs.YtfiaoibfejginaaDoor
set_option linter.unusedVariables false
set_option linter.unusedSimpArgs false
open Go Go.RowKit Go.Sort

theorem cnt_rk (r : Int) (s : QS) (t : Nat) : (cnt r s t).opn.length = s.opn.length := by unfold cnt acc; split <;> simp
theorem BB.rkI {N : Nat} {s : QS} {M : Int} (h : BB N s M) {t : Nat} (ht : t < N) (h2 : t < s.rk.length) : -M ≤ s.rk[t] ∧ s.rk[t] ≤ M ∧ s.rk.getD t 0 = s.rk[t] := by
  have h1 := h.rb t ht
  rw [List.getD_eq_getElem?_getD, List.getElem?_eq_getElem h2] at h1
  exact ⟨h1.1, h1.2, by rw [List.getD_eq_getElem?_getD, List.getElem?_eq_getElem h2]; rfl⟩
theorem getD_at {l : List Int} {t : Nat} (h : t < l.length) : l.getD t 0 = l[t] := by rw [List.getD_eq_getElem?_getD, List.getElem?_eq_getElem h]; rfl
theorem outs_lt {N : Int} {ps : List (Int × Int)} (hok : GOk N ps) (j : Nat) : ∀ t ∈ outs ps j, (t : Int) < N := fun t ht => by
  unfold outs at ht
  obtain ⟨p, hp, rfl⟩ := List.mem_map.1 ht
  have := hok.ix p (List.mem_filter.1 hp).1
  omega
theorem bb_rej {N : Nat} {ps : List (Int × Int)} (hok : GOk (N : Int) ps) (hpl : ps.length ≤ 2000) {s : QS} {M : Int} (h : BB N s M) {j : Nat} (hj : j < N) {r : Int} (h1 : -M ≤ r) (h2 : r ≤ M) : BB N (rej ps s j r) (M + 4000) := by
  have hN : N ≤ 40 := by have := hok.n40; omega
  refine BB.mono (bb_cnts hN (outs ps j) (bb_out h hj h1 h2) (fun t ht => by have := outs_lt hok j t ht; omega) h1 h2) ?_
  have := outP_len ps j
  rw [outs_len]
  omega
theorem bb_hit {N : Nat} {ps : List (Int × Int)} (hok : GOk (N : Int) ps) (hpl : ps.length ≤ 2000) {s : QS} {M : Int} (hM : 0 ≤ M) (h : BB N s M) {i t : Nat} (hi : i < N) (ht : t < N) : BB N (hit ps i s t) (M + 4000) := by
  unfold hit
  split
  · obtain ⟨h1, h2, h3⟩ := h.rkI hi (by rw [h.rl]; exact hi)
    rw [h3]
    exact bb_rej hok hpl h ht h1 h2
  · exact h.mono (by omega)

set_option maxRecDepth 100000 in
set_option maxHeartbeats 4000000 in
theorem rejectAttacked_any (B K S L R N : Nat) (a : Option Addr) (c : Nat) (ps : List (Int × Int)) (qa : Option Addr) (qc : Nat) (s : QS) (i : Nat) (Mb : Int) (w : World) (h : RS B K S L R N a ps.length c qa qc w s) (hok : GOk (N : Int) ps) (hpl : ps.length ≤ 2000) (hg : GAt B w a c ps) (hi : i < N) (hbb : BB N s Mb) (hM0 : 0 ≤ Mb) (hMb : Mb ≤ 10000) (ho40 : (outP ps i).length ≤ 40) (hK : K ≤ w.heap.size) :
    Calls Tryd.prog 61 #[.pointer (some ⟨S, 0, none⟩), .int .i64 (i : Int)] w (ROut B K S L R N a ps.length c (rejA ps s i) w) := by
  have hN : N ≤ 40 := by have := hok.n40; omega
  have x0 := h.c0
  have x1 := h.c1
  have lx := h.lt
  have HA := hidIt h
  have HG := hidIt hg
  obtain ⟨hBS, hBL, hBR, hSK, hLK, hRK, hSL, hSR, hLR⟩ := h.ord
  have hi0 : (0 : Int) ≤ (i : Int) := by omega
  have hiI : (i : Int) < (N : Int) := by omega
  have HOK := hidIt hok
  have HBB := hidIt hbb
  clear h hg hok hbb
  go_enter Tryd.func61, Tryd.ntmps61
  go_wp2_with fail
  refine (attacksBy_any N i a c ps w HG.out.at_ HOK.out (by omega) hi).mono ?_
  rintro e w4 ⟨va, vc, vi, vm, rfl, ho1, ho2, hb4⟩
  have HG4 := hidIt (HG.out.go (Below.mono hb4 HA.out.szB))
  have HPB := hidIt (AttOut.pcb HG4.out.pcb ho1 ho2)
  have HA4 := hidIt (HA.out.go hb4)
  have HB4 : Hid (Below B w w4) := Below.mono hb4 HA.out.szB
  have HKW : Hid (K ≤ w4.heap.size) := Nat.le_trans hK (HB4.out.size)
  have HOL2 := hidIt (outs_len ps i)
  obtain ⟨D, hD⟩ : ∃ D, D = (outP ps i).length := ⟨_, rfl⟩
  have HD := hidIt hD
  rw [← hD] at ho40 ⊢
  have HSB := hidIt HA4.out.szB
  clear hD hb4 ho1 ho2 x0 x1 lx HA HG hK
  go_wp2_with fail
  go_loopw [5, 13] (fun _ v13 wr => ∃ (k : Nat) (qa : Option Addr) (qc : Nat), k ≤ D ∧ v13 = .int .i64 k ∧ Hid (RS B K S L R N a ps.length c qa qc wr (((outs ps i).take k).foldl (hit ps i) s)) ∧ Hid (BB N (((outs ps i).take k).foldl (hit ps i) s) (Mb + 4000 * k)) ∧ Hid (Below B w4 wr)) (fun _ v13 _ => D - (intOf v13).toNat)
  case atStart => exact ⟨0, qa, qc, Nat.zero_le _, (by first | rfl | trivial), HA4.out, (by have h := HBB.out; rw [← Int.add_zero Mb] at h; exact h), Below.refl _ _⟩
  case round =>
    clear HA4 HBB
    obtain ⟨k, qa, qc, hk, rfl, HA, HBB, HB⟩ := hrel
    have hk0 : (0 : Int) ≤ (k : Int) := by omega
    by_cases hlt : k < D
    · have hkI : (k : Int) < (D : Int) := by omega
      have h1x : k < (outP ps i).length := by have := HD.out; omega
      have h2x : k < (outs ps i).length := by have := HOL2.out; omega
      obtain ⟨b1, o1, rfl, l1, hc1⟩ := (HPB.out.go HB.out (Nat.le_refl _) HSB.out).at_ h1x
      obtain ⟨p0, p1⟩ := hc1 k h1x
      obtain ⟨g, he, htN⟩ := outP_get HOK.out h1x h2x
      have HST := hidIt (foldl_take_succ (hit ps i) s (outs ps i) k h2x)
      rw [he] at p0 p1
      simp only at p0 p1
      generalize ((outs ps i).take k).foldl (hit ps i) s = sk at *
      generalize (outs ps i)[k] = t at *
      have htN' : t < N := by omega
      have ht0 : (0 : Int) ≤ (t : Int) := by omega
      have lb1 : b1 < wr.heap.size := by have := HA.out.szB; omega
      have hgr := bgrow wr (.cells #[.int .i64 g, .int .i64 (t : Int)] 45)
      have HQ := hidIt (heap_alloc_new wr (.cells #[.int .i64 g, .int .i64 (t : Int)] 45))
      have HA5 := hidIt (HA.out.go hgr)
      have HB5 := hidIt (HB.out.trans (Below.mono hgr HA.out.szB))
      have HG5 := hidIt (HG4.out.go HB5.out)
      have hSQ : wr.heap.size ≠ S := by have := HA.out.lt; omega
      clear hc1 he hgr HA HB h1x h2x
      go_upto_region 3 with (fail)
      generalize (wr.alloc (.cells #[.int .i64 g, .int .i64 (t : Int)] 45)) = w5 at *
      generalize wr.heap.size = Q at *
      clear p0 p1 l1 lb1
      obtain ⟨y0, y1⟩ := And.intro (cell_two0 HQ.out) (cell_two1 HQ.out)
      have ly := lt_of_block HQ.out
      have x2 := HA5.out.c2
      have lx := HA5.out.lt
      have hll : t < sk.lab.length := by rw [HBB.out.ll]; exact htN'
      have xl := HA5.out.lab.cell hll
      have l2 := HA5.out.lab.lt
      have hrl : i < sk.rk.length := by rw [HBB.out.rl]; exact hi
      have hrkI := HBB.out.rkI hi hrl
      have HC := hidIt (show hit ps i sk t = if sk.lab[t] = 3 then rej ps sk t sk.rk[i] else sk by unfold hit; rw [getD_at hll, getD_at hrl])
      have HBC := hidIt (bb_hit HOK.out hpl (by omega) HBB.out hi htN')
      generalize sk.lab[t] = z at *
      have htI : (t : Int) < (N : Int) := by omega
      by_cases hz : z = 3
      · have HC2 := hidIt (HC.out.trans (if_pos hz))
        subst hz
        clear HC
        go_quiet (fail)
        have HA8 := hidIt (HA5.out.go (below_drewN _ nq _))
        have HB8 := hidIt (HB5.out.trans (below_drewN B nq _))
        have HG8 := hidIt (HG5.out.go (below_drewN B nq _))
        have HQ8 : Hid ((w5.drewN nq).heap[Q]? = some (.cells #[.int .i64 g, .int .i64 (t : Int)] 45 (0, 0))) := HQ.out
        clear y0 y1 ly xl lx x2 l2 HA5 HB5 HG5 HQ
        generalize w5.drewN nq = w8 at *
        obtain ⟨y0, y1⟩ := And.intro (cell_two0 HQ8.out) (cell_two1 HQ8.out)
        have ly := lt_of_block HQ8.out
        have x3 := HA8.out.c3
        have lx := HA8.out.lt
        have xr := HA8.out.rk.cell hrl
        have l3 := HA8.out.rk.lt
        generalize sk.rk[i] = ri at *
        go_wp2_with fail
        go_still_tail 10, (by kernel_rfl)
        change wpList _ _ _ _ _ w8.drew
        have HA9 := hidIt (HA8.out.go (below_drew _ _))
        have HB9 := hidIt (HB8.out.trans (below_drew B _))
        have HG9 := hidIt (HG8.out.go (below_drew B _))
        clear y0 y1 ly x3 lx xr l3 HA8 HB8 HG8 HQ8
        generalize w8.drew = w9 at *
        go_wp2_with fail
        refine (reject_any B K S L R N a c ps qa qc sk t ri (Mb + 4000 * k) w9 HA9.out HOK.out hpl HG9.out htN' HBB.out (by omega) hrkI.1 hrkI.2.1 (Nat.le_trans HKW.out (HB9.out.size))).mono ?_
        rintro e w10 ⟨qa9, qc9, v9, rfl, ha9, hb9⟩
        have HAF := hidIt ha9
        have HBF := hidIt (HB9.out.trans hb9)
        clear ha9 hb9 HA9 HB9 HG9
        go_wp2_with fail
        go_roundw
        case rel => exact ⟨k + 1, qa9, qc9, by omega, by go_num, by rw [HST.out, HC2.out]; exact HAF.out, by rw [HST.out]; exact BB.mono HBC.out (by omega), HBF.out⟩
        case measure => simp [intOf]; omega
      · have HC2 := hidIt (HC.out.trans (if_neg hz))
        have hzb : (z == 3) = false := beq_eq_false_iff_ne.2 hz
        clear HC hz
        go_quiet (fail)
        have HA8 := hidIt (HA5.out.go (below_drewN _ nq _))
        have HB8 := hidIt (HB5.out.trans (below_drewN B nq _))
        clear y0 y1 ly xl lx x2 l2 HA5 HB5 HQ
        generalize w5.drewN nq = w8 at *
        go_wp2_with fail
        go_roundw
        case rel => exact ⟨k + 1, qa, qc, by omega, by go_num, by rw [HST.out, HC2.out]; exact HA8.out, by rw [HST.out]; exact BB.mono HBC.out (by omega), HB8.out⟩
        case measure => simp [intOf]; omega
    · obtain rfl : k = D := by omega
      have hkI : ¬ (k : Int) < (k : Int) := by omega
      go_wp2_with fail
      go_end0
      refine ⟨qa, qc, _, rfl, ?_, HB4.out.trans HB.out⟩
      have h := HA.out
      rw [List.take_of_length_le (by rw [HOL2.out, ← HD.out]; exact Nat.le_refl _)] at h
      exact h
end Go.Proofs.YtfiaoibfejginaaDoor
