/- What the package's tables and the library's variables hold while the calls run. What the reader of lines answers, in plain words: its words, names, literals, ranks and lines' things. The reader of words in memory; its first calls. The kind of a word. -/
import Derived.Test.YtfcoplplkbeljaaGreatDoorZ1B
import Derived.Lib.LaidTab
import Derived.Shelf.Unicode.IsSpaceAny
import Derived.Shelf.Strings.Fields
import Derived.WalkSmall
import Derived.Lib.SpaceU
import Derived.Lib.AtoiAll
import Derived.Lib.Strings
import Derived.Lib.IndexMore
import Derived.Test.YtfcoplplkbeljaaGreatDoorKeep

namespace Go.Proofs.YtfcoplplkbeljaaGreatDoor
set_option linter.unusedVariables false
set_option linter.unusedSimpArgs false
open Go Go.RowKit

/-- The package's table of words lies as it was laid. -/
structure WordsAt (w : World) : Prop where
  lt : 1 < w.heap.size
  c0 : w.cell? ⟨1, 0, none⟩ = some (.string ⟨#[]⟩)
  c1 : w.cell? ⟨1, 1, none⟩ = some (.string ⟨#[97, 120, 105, 111, 109]⟩)
  c2 : w.cell? ⟨1, 2, none⟩ = some (.string ⟨#[112, 114, 101, 109, 105, 115, 101]⟩)
  c3 : w.cell? ⟨1, 3, none⟩ = some (.string ⟨#[97, 115, 115, 117, 109, 101]⟩)
theorem WordsAt.go {w w' : World} (h : WordsAt w) (hb : Below w.heap.size w w') : WordsAt w' :=
  ⟨Nat.lt_of_lt_of_le h.lt hb.size, (hb.cell (p := ⟨1, 0, none⟩) h.lt).trans h.c0, (hb.cell (p := ⟨1, 1, none⟩) h.lt).trans h.c1, (hb.cell (p := ⟨1, 2, none⟩) h.lt).trans h.c2, (hb.cell (p := ⟨1, 3, none⟩) h.lt).trans h.c3⟩


theorem gAscii : Tryz.prog.globalNamed "strings.asciiSpace" = some 0 := by kernel_rfl
/-- The tables of words and of spaces, and the two errors of package strconv. -/
structure EnvOk (w : World) : Prop where
  words : WordsAt w
  e5 : ∃ t p, w.cell? ⟨4, 0, none⟩ = some (.iface t p)
  e6 : ∃ t p, w.cell? ⟨5, 0, none⟩ = some (.iface t p)
  tab : Lib.TabIs Tryz.prog w "strings.asciiSpace" .u8 Lib.asciiSpaceTab
  white : Lib.WhiteTab 3 w
theorem lt_of_cellE {w : World} {a : Addr} {v : Value} (hc : w.cell? a = some v) : a.block < w.heap.size := by
  rcases Nat.lt_or_ge a.block w.heap.size with h' | h'
  · exact h'
  · simp [World.cell?, Array.getElem?_eq_none h'] at hc
theorem EnvOk.go {w w' : World} (h : EnvOk w) (hb : Below w.heap.size w w') : EnvOk w' := by
  obtain ⟨h1, ⟨t5, p5, h5⟩, ⟨t6, p6, h6⟩, h3, h4⟩ := h
  have ha := h3.cell gAscii 0 (by rw [Lib.asciiSpaceTab_length]; omega)
  exact ⟨h1.go hb, ⟨t5, p5, (hb.cell (lt_of_cellE h5)).trans h5⟩, ⟨t6, p6, (hb.cell (lt_of_cellE h6)).trans h6⟩, var?_below hb gAscii (lt_of_cellE ha) h3, WhiteTab_below h4 hb⟩
/-- What lies below block B is what lay there in a world in which they hold. -/
def EnvUp (B : Nat) (w : World) : Prop := ∃ w0, EnvOk w0 ∧ w0.heap.size = B ∧ Below B w0 w
theorem EnvUp.ok {B : Nat} {w : World} (h : EnvUp B w) : EnvOk w := by
  obtain ⟨w0, h1, h2, h3⟩ := h
  subst h2
  exact h1.go h3
theorem EnvUp.le {B : Nat} {w : World} (h : EnvUp B w) : B ≤ w.heap.size := by
  obtain ⟨w0, h1, h2, h3⟩ := h
  subst h2
  exact h3.size
theorem EnvUp.start {w : World} (h : EnvOk w) : EnvUp w.heap.size w := ⟨w, h, rfl, Below.refl _ _⟩
theorem EnvUp.kept {B : Nat} {w w' : World} {row : Option Nat} (h : EnvUp B w) (hg : w.grownBy w' row) (hr : ∀ g, row = some g → B ≤ g) : EnvUp B w' := by
  have hle := h.le
  obtain ⟨w0, h1, h2, h3⟩ := h
  exact ⟨w0, h1, h2, hg.os.trans h3.os, hg.tape.trans h3.tape, hg.output.trans h3.output, Nat.le_trans h3.size hg.size, fun k hk => (hg.block k (by omega) (fun e => by have := hr k e.symm; omega)).trans (h3.block k hk)⟩
theorem EnvUp.go {B : Nat} {w w' : World} (h : EnvUp B w) (hb : Below B w w') : EnvUp B w' := by
  obtain ⟨w0, h1, h2, h3⟩ := h
  exact ⟨w0, h1, h2, h3.trans hb⟩
end Go.Proofs.YtfcoplplkbeljaaGreatDoor

namespace Go.Proofs.YtfcoplplkbeljaaGreatDoor
set_option linter.unusedVariables false
set_option linter.unusedSimpArgs false
open Go Go.RowKit

/-- The reader: the words ahead, and whether it has failed. -/
structure Rd where
  ws : List ByteArray
  bad : Bool
/-- The word ahead, or the empty one. -/
def hdW (ws : List ByteArray) : ByteArray := ws.headD ⟨#[]⟩
def trimT (s p : ByteArray) : ByteArray := ⟨(Lib.trimSuffix s.data.toList p.data.toList).toArray⟩
def litW (x : ByteArray) : Lt := ⟨parsedNeg x, parsedName x⟩
/-- Is the word read as a literal? -/
def litOk (x : ByteArray) : Bool := vn (bare x)
def atoiV (s : ByteArray) : Int := match Lib.atoiAll s.data.toList with
  | .ok v => v
  | .range => Lib.atoiSat s.data.toList
  | _ => 0
def atoiOk (s : ByteArray) : Bool := match Lib.atoiAll s.data.toList with
  | .ok _ => true
  | _ => false
def rdWord (r : Rd) : Rd := ⟨r.ws.tail, r.bad⟩
def rdName (r : Rd) (sg : ByteArray) : ByteArray × Rd := (trimT (hdW r.ws) sg, ⟨r.ws.tail, r.bad || !vn (trimT (hdW r.ws) sg)⟩)
def rdLit (r : Rd) (sg : ByteArray) : Lt × Rd := (litW (trimT (hdW r.ws) sg), ⟨r.ws.tail, r.bad || !litOk (trimT (hdW r.ws) sg)⟩)
def rdRank (r : Rd) (sg : ByteArray) : Int × Rd := (atoiV (trimT (hdW r.ws) sg), ⟨r.ws.tail, r.bad || !(atoiOk (trimT (hdW r.ws) sg) && rankB (atoiV (trimT (hdW r.ws) sg)) true)⟩)
def colT : ByteArray := ⟨#[58]⟩
def comT : ByteArray := ⟨#[44]⟩
def nilT : ByteArray := ⟨#[]⟩

/-- A premise: its kind is read already. -/
def rdPrem1 (k : Int) (r : Rd) : Lt × Rd := rdLit ⟨r.ws, r.bad || !(k != 0)⟩ nilT
def rdPrem2 (k : Int) (r : Rd) : Int × Rd := if k = 2 then rdRank (rdPrem1 k r).2 nilT else (0, (rdPrem1 k r).2)
def rdPrem3 (k : Int) (r : Rd) : ByteArray × Rd := if (rdPrem2 k r).2.ws.length = 0 then (nilT, (rdPrem2 k r).2) else rdName (rdWord (rdPrem2 k r).2) nilT
def rdPrem (k : Int) (r : Rd) : Pm × Rd := (⟨(rdPrem1 k r).1, k, (rdPrem2 k r).1, (rdPrem3 k r).1⟩, (rdPrem3 k r).2)

/-- The first n words as the literals of a body. -/
def rdBody (n : Nat) (r : Rd) : List Lt × Rd := ((r.ws.take n).map (fun x => litW (trimT x comT)), ⟨r.ws.drop n, r.bad || (r.ws.take n).any (fun x => !litOk (trimT x comT))⟩)
def rdRule1 (st : Bool) (r : Rd) : Int × Rd := if st then (0, (rdName r colT).2) else rdRank (rdName r colT).2 colT
def rdRule2 (st : Bool) (r : Rd) : List Lt × Rd := rdBody ((rdRule1 st r).2.ws.length - 2) (rdRule1 st r).2
def rdRule (st : Bool) (r : Rd) : Ru × Rd := (⟨(rdName r colT).1, st, (rdRule1 st r).1, (rdRule2 st r).1, (rdLit (rdWord (rdRule2 st r).2) nilT).1⟩, (rdLit (rdWord (rdRule2 st r).2) nilT).2)

def rdProm1 (r : Rd) : Int × Rd := rdRank (rdName r nilT).2 nilT
def rdProm (r : Rd) : Pr × Rd := (⟨(rdName r nilT).1, (rdProm1 r).1, (rdLit (rdWord (rdProm1 r).2) nilT).1⟩, (rdLit (rdWord (rdProm1 r).2) nilT).2)

/-- The kind that a word stands for. -/
def kindT (s : ByteArray) : Int := if ([97, 120, 105, 111, 109] == s.toList) = true then 1 else if ([112, 114, 101, 109, 105, 115, 101] == s.toList) = true then 2 else if ([97, 115, 115, 117, 109, 101] == s.toList) = true then 3 else 0
def wordsOf (s : ByteArray) : List ByteArray := (Lib.fieldsD s.data.toList).map fun x => ⟨x.toArray⟩
def isStrict (s : ByteArray) : Bool := s.toList == [115, 116, 114, 105, 99, 116]
def isRule (s : ByteArray) : Bool := s.toList == [114, 117, 108, 101]
def isPromote (s : ByteArray) : Bool := s.toList == [112, 114, 111, 109, 111, 116, 101]
def sameB (a b : ByteArray) : Bool := a.toList == b.toList

end Go.Proofs.YtfcoplplkbeljaaGreatDoor

namespace Go.Proofs.YtfcoplplkbeljaaGreatDoor
set_option linter.unusedVariables false
set_option linter.unusedSimpArgs false
open Go Go.RowKit

/-- Block R holds a reader; it and its words lie below block L. -/
def RdAt (w : World) (L R : Nat) (r : Rd) : Prop :=
  L ≤ w.heap.size ∧ R < L ∧ ∃ (a : Option Addr) (cap : Nat), w.heap[R]? = some (.cells #[.slice a r.ws.length cap, .bool r.bad] 118 (0, 0)) ∧ r.ws.length ≤ cap ∧ cap ≤ maxLen ∧
    ∀ i (h : i < r.ws.length), ∃ b off : Nat, a = some ⟨b, off, none⟩ ∧ b < L ∧ b ≠ R ∧ w.cell? ⟨b, off + i, none⟩ = some (.string r.ws[i])

section
variable {w w' : World} {L R : Nat} {r : Rd}
theorem RdAt.lt (h : RdAt w L R r) : R < w.heap.size := Nat.lt_of_lt_of_le h.2.1 h.1
/-- It is kept while nothing below L turns. -/
theorem RdAt.kept {row : Option Nat} (h : RdAt w L R r) (hg : w.grownBy w' row) (hr : ∀ g, row = some g → L ≤ g) : RdAt w' L R r := by
  obtain ⟨h0, h1, a, cap, hk, h2, h3, h4⟩ := h
  refine ⟨Nat.le_trans h0 hg.size, h1, a, cap, by rw [hg.block R (lt_of_block hk) (fun e => by have := hr R e.symm; omega)]; exact hk, h2, h3, fun i hi => ?_⟩
  obtain ⟨b, off, rfl, h5, h6, h7⟩ := h4 i hi
  exact ⟨b, off, rfl, h5, h6, hg.cell h7 (fun e => by have := hr b e.symm; omega)⟩
theorem RdAt.go (h : RdAt w L R r) (hb : Below w.heap.size w w') : RdAt w' L R r := h.kept (only_of_below hb none) (fun g e => by cases e)
theorem RdAt.alloc (h : RdAt w L R r) (o : Obj) : RdAt (w.alloc o) L R r := h.go (bgrow w o)
theorem RdAt.setCell (h : RdAt w L R r) {p : Addr} (hp : L ≤ p.block) (u : Value) : RdAt (w.setCell p u) L R r :=
  h.kept (only_setCell (only_refl w (some p.block)) (.inl rfl) u) (fun g e => by injection e with e; subst e; exact hp)
end

theorem two_setCell0 {w : World} {b : Nat} {u v x : Value} {t : TypeId} (h : w.heap[b]? = some (.cells #[u, v] t (0, 0))) : (w.setCell ⟨b, 0, none⟩ x).heap[b]? = some (.cells #[x, v] t (0, 0)) := by
  have hlt := lt_of_block h
  have h' : w.heap[b] = .cells #[u, v] t (0, 0) := by simpa [Array.getElem?_eq_getElem hlt] using h
  show (w.heap.modify b _)[b]? = _
  rw [Array.getElem?_eq_getElem (by simpa using hlt), Array.getElem_modify_self, h']
  rfl
theorem cell_off {w : World} {p q : Addr} {u : Value} (h : q.block ≠ p.block) : (w.setCell p u).cell? q = w.cell? q := by
  have := Below.heap_setCell w p u q.block h
  unfold World.cell?
  rw [this]
theorem size_setCell (w : World) (p : Addr) (u : Value) : (w.setCell p u).heap.size = w.heap.size := by simp [World.setCell]

set_option maxHeartbeats 1000000 in
theorem expect_any (L R : Nat) (r : Rd) (g : Bool) (w : World) (h : RdAt w L R r) :
    Calls Tryz.prog 140 #[.pointer (some ⟨R, 0, none⟩), .bool g] w fun e w' => e = .returned (.tuple #[]) ∧ RdAt w' L R ⟨r.ws, r.bad || !g⟩ ∧ w.grownBy w' (some R) := by
  obtain ⟨ws, bad⟩ := r
  obtain ⟨h0, h1, a, cap, hk, h2, h3, h4⟩ := h
  simp only at hk h2 h4
  have c1 := cell_two1 hk
  have f1 := free_any hk 1
  have HK := hidIt hk
  have H4 := hidIt h4
  clear hk h4
  have fin : ∀ x : Bool, x = (bad || !g) → (RdAt (w.setCell ⟨R, 1, none⟩ (.bool x)) L R ⟨ws, bad || !g⟩ ∧ w.grownBy (w.setCell ⟨R, 1, none⟩ (.bool x)) (some R)) := fun x hx => by
    subst hx
    refine ⟨⟨by rw [size_setCell]; exact h0, h1, a, cap, two_setCell1 HK.out, h2, h3, fun i hi => ?_⟩, only_setCell (only_refl w _) (.inl rfl) _⟩
    obtain ⟨b, off, rfl, h5, h6, h7⟩ := H4.out i hi
    exact ⟨b, off, rfl, h5, h6, by rw [cell_off (show (⟨b, off + i, none⟩ : Addr).block ≠ (⟨R, 1, none⟩ : Addr).block from h6)]; exact h7⟩
  have FIN := hidIt fin
  clear fin
  cases bad <;> cases g
  all_goals
    go_enter Tryz.func140, Tryz.ntmps140
    go_wp2_with fail
    go_end0
    refine ⟨?_, FIN.out _ ?_⟩
    · rfl
    · rfl

set_option maxHeartbeats 1000000 in
theorem word_any (L R : Nat) (r : Rd) (w : World) (h : RdAt w L R r) :
    Calls Tryz.prog 93 #[.pointer (some ⟨R, 0, none⟩)] w fun e w' => e = .returned (.string (hdW r.ws)) ∧ RdAt w' L R (rdWord r) ∧ w.grownBy w' (some R) := by
  obtain ⟨ws, bad⟩ := r
  obtain ⟨h0, h1, a, cap, hk, h2, h3, h4⟩ := h
  simp only at hk h2 h4
  cases ws with
  | nil =>
    have c0 : w.cell? ⟨R, 0, none⟩ = some (.slice a 0 cap) := cell_two0 hk
    have HK := hidIt hk
    clear hk h4
    go_enter Tryz.func93, Tryz.ntmps93
    go_wp2_with fail
    go_ret
    exact ⟨rfl, ⟨h0, h1, a, cap, HK.out, Nat.zero_le _, h3, fun i hi => absurd hi (by simp [rdWord])⟩, only_refl _ _⟩
  | cons x t =>
    obtain ⟨b, off, rfl, h5, h6, h7⟩ := h4 0 (by simp)
    have H4 := hidIt h4
    have HK := hidIt hk
    simp only [List.getElem_cons_zero, Nat.add_zero] at h7
    have hn : (x :: t).length = t.length + 1 := rfl
    rw [hn] at hk h2
    have c0 := cell_two0 hk
    have f0 := free_any hk 0
    have hm1 : t.length + 1 ≤ 9223372036854775807 := by unfold maxLen at h3; omega
    have hm2 : cap ≤ 9223372036854775807 := by unfold maxLen at h3; omega
    have h31 : (1 : Int) ≤ (cap : Int) := by omega
    have h32 : (1 : Int) ≤ ((t.length + 1 : Nat) : Int) := by omega
    have h33 : ((t.length + 1 : Nat) : Int) ≠ 0 := by omega
    clear h4 hk
    have fin : ∀ ad : Option Addr, (ad = if cap = 1 then some ⟨b, off, none⟩ else some ⟨b, off + 1, none⟩) → (RdAt (w.setCell ⟨R, 0, none⟩ (.slice ad t.length (cap - 1))) L R ⟨t, bad⟩ ∧ w.grownBy (w.setCell ⟨R, 0, none⟩ (.slice ad t.length (cap - 1))) (some R)) := fun ad had => by
      refine ⟨⟨by rw [size_setCell]; exact h0, h1, ad, cap - 1, two_setCell0 HK.out, by show t.length ≤ cap - 1; omega, by unfold maxLen at *; omega, fun i hi => ?_⟩, only_setCell (only_refl w _) (.inl rfl) _⟩
      have hi' : i < t.length := hi
      have hc1 : cap ≠ 1 := by omega
      rw [if_neg hc1] at had
      subst had
      obtain ⟨b', off', e1, h5, h6, h7⟩ := H4.out (i + 1) (by simp; omega)
      injection e1 with e1
      injection e1 with e1 e2
      subst e1 e2
      refine ⟨b, off + 1, rfl, h5, h6, ?_⟩
      rw [cell_off (show (⟨b, off + 1 + i, none⟩ : Addr).block ≠ (⟨R, 0, none⟩ : Addr).block from h6), show off + 1 + i = off + (i + 1) by omega]
      exact h7
    have FIN := hidIt fin
    clear fin
    go_enter Tryz.func93, Tryz.ntmps93
    go_wp2_with fail
    all_goals
      go_ret
      refine ⟨rfl, ?_⟩
      first
        | (have hc : cap = 1 := by assumption
           subst hc
           exact FIN.out _ (if_pos rfl).symm)
        | exact FIN.out _ (if_neg (by assumption)).symm
end Go.Proofs.YtfcoplplkbeljaaGreatDoor

namespace Go.Proofs.YtfcoplplkbeljaaGreatDoor
set_option linter.unusedVariables false
set_option linter.unusedSimpArgs false
open Go Go.RowKit

set_option maxRecDepth 100000 in
set_option maxHeartbeats 1000000 in
theorem kindOf_any (s : ByteArray) (w : World) (hw : WordsAt w) :
    Calls Tryz.prog 99 #[.string s] w fun e w' => e = .returned (.int .i64 (kindT s)) ∧ w = w' := by
  obtain ⟨hlt, c0, c1, c2, c3⟩ := hw
  have HK : Hid (kindT s = if ([97, 120, 105, 111, 109] == s.toList) = true then 1 else if ([112, 114, 101, 109, 105, 115, 101] == s.toList) = true then 2 else if ([97, 115, 115, 117, 109, 101] == s.toList) = true then 3 else 0) := by show _ = _; rfl
  generalize kindT s = K at *
  have ix : ∀ (k : Nat) (u : Value), k < 4 → (#[.string ⟨#[]⟩, .string ⟨#[97, 120, 105, 111, 109]⟩, .string ⟨#[112, 114, 101, 109, 105, 115, 101]⟩, .string ⟨#[97, 115, 115, 117, 109, 101]⟩] : Array Value)[k]? = some u → (Instr.index 153 (.agg #[.string ⟨#[]⟩, .string ⟨#[97, 120, 105, 111, 109]⟩, .string ⟨#[112, 114, 101, 109, 105, 115, 101]⟩, .string ⟨#[97, 115, 115, 117, 109, 101]⟩]) (.int .i64 (k : Int))).run Tryz.prog w = .ok u w := fun k u hk hu => by
    rcases (by omega : k = 0 ∨ k = 1 ∨ k = 2 ∨ k = 3) with rfl | rfl | rfl | rfl
    all_goals
      simp at hu
      subst hu
      kernel_rfl
  go_enter Tryz.func99, Tryz.ntmps99
  go_wp2_with fail
  go_loop [6] (fun i => ∃ k : Nat, k ≤ 4 ∧ i = .int .i64 k ∧ Hid (1 < k → ([97, 120, 105, 111, 109] == s.toList) = false) ∧ Hid (2 < k → ([112, 114, 101, 109, 105, 115, 101] == s.toList) = false) ∧ Hid (3 < k → ([97, 115, 115, 117, 109, 101] == s.toList) = false)) (fun i => 4 - (intOf i).toNat)
  case atStart => exact ⟨0, Nat.zero_le _, rfl, fun h => absurd h (by omega), fun h => absurd h (by omega), fun h => absurd h (by omega)⟩
  case round =>
    obtain ⟨k, hk, rfl, H1, H2, H3⟩ := hrel
    rcases (by omega : k = 0 ∨ k = 1 ∨ k = 2 ∨ k = 3 ∨ k = 4) with rfl | rfl | rfl | rfl | rfl
    · have x0 : (Instr.index 153 (.agg #[.string ⟨#[]⟩, .string ⟨#[97, 120, 105, 111, 109]⟩, .string ⟨#[112, 114, 101, 109, 105, 115, 101]⟩, .string ⟨#[97, 115, 115, 117, 109, 101]⟩]) (.int .i64 0)).run Tryz.prog w = .ok (.string ⟨#[]⟩) w := ix 0 _ (by decide) rfl
      cases hb : (([] : List UInt8) == s.toList)
      · go_wp2_with fail
        go_round
        case rel => exact ⟨1, by omega, by go_num, fun h => absurd h (by omega), fun h => absurd h (by omega), fun h => absurd h (by omega)⟩
        case measure => simp [intOf]
      · go_wp2_with fail
        go_ret
        refine ⟨ret_int ?_, rfl⟩
        rw [HK.out]
        have hs : s.toList = [] := by have := hb; rw [beq_iff_eq] at this; rw [← this]
        rw [hs]
        decide +kernel
    · have x1 : (Instr.index 153 (.agg #[.string ⟨#[]⟩, .string ⟨#[97, 120, 105, 111, 109]⟩, .string ⟨#[112, 114, 101, 109, 105, 115, 101]⟩, .string ⟨#[97, 115, 115, 117, 109, 101]⟩]) (.int .i64 1)).run Tryz.prog w = .ok (.string ⟨#[97, 120, 105, 111, 109]⟩) w := ix 1 _ (by decide) rfl
      cases hb : ([97, 120, 105, 111, 109] == s.toList)
      · go_wp2_with fail
        go_round
        case rel => exact ⟨2, by omega, by go_num, by first | exact fun _ => hb | (intro _; trivial) | trivial, fun h => absurd h (by omega), fun h => absurd h (by omega)⟩
        case measure => simp [intOf]
      · go_wp2_with fail
        go_ret
        refine ⟨ret_int ?_, rfl⟩
        rw [HK.out, if_pos hb]
    · have x2 : (Instr.index 153 (.agg #[.string ⟨#[]⟩, .string ⟨#[97, 120, 105, 111, 109]⟩, .string ⟨#[112, 114, 101, 109, 105, 115, 101]⟩, .string ⟨#[97, 115, 115, 117, 109, 101]⟩]) (.int .i64 2)).run Tryz.prog w = .ok (.string ⟨#[112, 114, 101, 109, 105, 115, 101]⟩) w := ix 2 _ (by decide) rfl
      cases hb : ([112, 114, 101, 109, 105, 115, 101] == s.toList)
      · go_wp2_with fail
        go_round
        case rel => exact ⟨3, by omega, by go_num, fun _ => H1.out (by omega), by first | exact fun _ => hb | (intro _; trivial) | trivial, fun h => absurd h (by omega)⟩
        case measure => simp [intOf]
      · go_wp2_with fail
        go_ret
        refine ⟨ret_int ?_, rfl⟩
        rw [HK.out, if_neg (by rw [H1.out (by omega)]; decide), if_pos hb]
    · have x3 : (Instr.index 153 (.agg #[.string ⟨#[]⟩, .string ⟨#[97, 120, 105, 111, 109]⟩, .string ⟨#[112, 114, 101, 109, 105, 115, 101]⟩, .string ⟨#[97, 115, 115, 117, 109, 101]⟩]) (.int .i64 3)).run Tryz.prog w = .ok (.string ⟨#[97, 115, 115, 117, 109, 101]⟩) w := ix 3 _ (by decide) rfl
      cases hb : ([97, 115, 115, 117, 109, 101] == s.toList)
      · go_wp2_with fail
        go_round
        case rel => exact ⟨4, by omega, by go_num, fun _ => H1.out (by omega), fun _ => H2.out (by omega), by first | exact fun _ => hb | (intro _; trivial) | trivial⟩
        case measure => simp [intOf]
      · go_wp2_with fail
        go_ret
        refine ⟨ret_int ?_, rfl⟩
        rw [HK.out, if_neg (by rw [H1.out (by omega)]; decide), if_neg (by rw [H2.out (by omega)]; decide), if_pos hb]
    · go_wp2_with fail
      go_ret
      refine ⟨ret_int ?_, rfl⟩
      rw [HK.out, if_neg (by rw [H1.out (by omega)]; decide), if_neg (by rw [H2.out (by omega)]; decide), if_neg (by rw [H3.out (by omega)]; decide)]
end Go.Proofs.YtfcoplplkbeljaaGreatDoor
