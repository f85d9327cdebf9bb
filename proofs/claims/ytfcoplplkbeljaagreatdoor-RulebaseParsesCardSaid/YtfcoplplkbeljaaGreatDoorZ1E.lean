/- The lines of the text of a rule base. A row of strings that a call made. The text of a body. The line of a rule. -/
import Derived.Test.YtfcoplplkbeljaaGreatDoorZ1D
import Derived.Test.YtfcoplplkbeljaaGreatDoorShelf
import Derived.Laws.MakeOwn

namespace Go.Proofs.YtfcoplplkbeljaaGreatDoor
set_option linter.unusedVariables false
set_option linter.unusedSimpArgs false
open Go Go.RowKit

def litT (x : Lt) : ByteArray := fmtB x.neg x.name
def digT (n : Nat) : ByteArray := ⟨(Lib.decDigits n).toArray⟩
def isV (x : Value) : Value → World → Prop := fun v _ => v = x
theorem isV_up (x : Value) : GoesUp (isV x) := fun _ _ _ _ h => h

theorem dig_size (n : Nat) (h : n < 10) : (digT n).size = 1 := by
  unfold digT
  rw [Lib.decDigits_one h]
  rfl
theorem lit_size {x : Lt} (h : x.name.size ≤ 12) : (litT x).size ≤ 13 := by
  unfold litT fmtB
  cases vn x.name
  · exact Nat.zero_le _
  · cases x.neg
    · exact Nat.le_trans h (by decide)
    · show ((⟨#[126]⟩ : ByteArray) ++ x.name).size ≤ 13
      rw [ByteArray.size_append]
      have : (⟨#[126]⟩ : ByteArray).size = 1 := rfl
      omega

/-- The line of a promotion. -/
def promT (p : Pr) (n : Nat) : ByteArray := ⟨#[112, 114, 111, 109, 111, 116, 101, 32]⟩ ++ p.rule ++ ⟨#[32]⟩ ++ digT n ++ ⟨#[32, 105, 102, 32]⟩ ++ litT p.lit

set_option maxRecDepth 100000 in
set_option maxHeartbeats 2000000 in
theorem promLine_any (p : Pr) (n : Nat) (hn : n < 10) (hr : p.rank = (n : Int)) (h1 : p.rule.size ≤ 12) (h2 : p.lit.name.size ≤ 12) (w : World) :
    Calls Tryz.prog 97 #[.agg #[.string p.rule, .int .i64 p.rank, .bool p.lit.neg, .string p.lit.name]] w fun e w' => e = .returned (.string (promT p n)) ∧ Below w.heap.size w w' := by
  obtain ⟨rl, rk, ⟨g, s⟩⟩ := p
  simp only at hr h1 h2 ⊢
  subst hr
  have HT : Hid (promT ⟨rl, n, ⟨g, s⟩⟩ n = ⟨#[112, 114, 111, 109, 111, 116, 101, 32]⟩ ++ rl ++ ⟨#[32]⟩ ++ digT n ++ ⟨#[32, 105, 102, 32]⟩ ++ litT ⟨g, s⟩) := by show _ = _; rfl
  generalize promT ⟨rl, n, ⟨g, s⟩⟩ n = T at *
  have HB := hidIt (bgrow w (.cells #[.string rl, .int .i64 (n : Int), .bool g, .string s] 78))
  have HK := hidIt (heap_alloc_new w (.cells #[.string rl, .int .i64 (n : Int), .bool g, .string s] 78))
  have hds := dig_size n hn
  have hls := lit_size (x := ⟨g, s⟩) h2
  have HI : Hid (∀ wx : World, Calls Tryz.prog 137 #[.int .i64 (n : Int)] wx fun e w' => e = .returned (.string (digT n)) ∧ w' = wx) := fun wx => Tryz.strconv_Itoa_small n (by omega) wx
  have HM : Hid (∀ wx : World, Calls Tryz.prog 139 #[.agg #[.bool g, .string s]] wx fun e w' => e = .returned (.string (litT ⟨g, s⟩)) ∧ Below wx.heap.size wx w') := fun wx => format_any g s wx (Nat.le_trans h2 (by unfold maxLen; omega))
  generalize digT n = d at *
  generalize litT ⟨g, s⟩ = t at *
  have q1 : ¬ 9223372036854775807 < 8 + rl.size := by omega
  have q2 : ¬ 9223372036854775807 < 8 + rl.size + 1 := by omega
  have q3 : ¬ 9223372036854775807 < 8 + rl.size + 1 + d.size := by omega
  have q4 : ¬ 9223372036854775807 < 8 + rl.size + 1 + d.size + 4 := by omega
  have q5 : ¬ 9223372036854775807 < 8 + rl.size + 1 + d.size + 4 + t.size := by omega
  clear hds hls
  go_enter Tryz.func97, Tryz.ntmps97
  go_wp2_with fail
  generalize (w.alloc (.cells #[.string rl, .int .i64 (n : Int), .bool g, .string s] 78)) = w2 at *
  obtain ⟨p0, p1, p2, p3⟩ := bcell4 HK.out
  have lp := lt_of_block HK.out
  have X0 : ∀ wx, Ext w2 wx → wx.cell? ⟨w.heap.size, 0, none⟩ = some (.string rl) := fun wx hC => ext_cell p0 lp hC
  have X1 : ∀ wx, Ext w2 wx → wx.cell? ⟨w.heap.size, 1, none⟩ = some (.int .i64 (n : Int)) := fun wx hC => ext_cell p1 lp hC
  have X2 : ∀ wx, Ext w2 wx → wx.cell? ⟨w.heap.size, 2, none⟩ = some (.bool g) := fun wx hC => ext_cell p2 lp hC
  have X3 : ∀ wx, Ext w2 wx → wx.cell? ⟨w.heap.size, 3, none⟩ = some (.string s) := fun wx hC => ext_cell p3 lp hC
  have H1 : Hid (∀ wx, Ext w2 wx → Calls Tryz.prog 137 #[.int .i64 (n : Int)] wx fun e w'' => ∃ u, e = .returned u ∧ Ext w2 w'' ∧ Grows wx w'' ∧ isV (.string d) u w'') := fun wx hC => rel_call hC ((HI.out wx).mono fun e w'' ⟨he, hw⟩ => ⟨_, he, rfl, by rw [hw]; exact Below.refl _ _⟩)
  have H2 : Hid (∀ wx, Ext w2 wx → Calls Tryz.prog 139 #[.agg #[.bool g, .string s]] wx fun e w'' => ∃ u, e = .returned u ∧ Ext w2 w'' ∧ Grows wx w'' ∧ isV (.string t) u w'') := fun wx hC => rel_call hC ((HM.out wx).mono fun e w'' ⟨he, hb⟩ => ⟨_, he, rfl, hb⟩)
  clear p0 p1 p2 p3
  haveI : Nonempty (In (Ext w2)) := Ext.nonempty w2
  refine wp_region_rel (Ext w2) Grows (relTab [(9, isV (.string d)), (14, isV (.string t))]) (by kernel_rfl) (by kernel_rfl) (by kernel_rfl) (stable_cons (isV_up _) (stable_cons (isV_up _) (stable_nil _))) (Ext.start w2) ?_
  repeat (
    refine' walkR_plain (by kernel_rfl) rfl rfl (fun wx hC hL => ?_) ?_
    rotate_left
    · (have hlw := Nat.lt_of_lt_of_le lp (Below.size hC)
       simp only [X0 wx hC, X1 wx hC, X2 wx hC, X3 wx hC, hlw, go_sem]; first | done | (go_simp; exact ⟨rfl, rfl⟩))
    simp only [Act.put, List.setIfInBounds_toArray, List.set_cons_zero, List.set_cons_succ])
  refine walkR_rel (by kernel_rfl) rfl rfl (of_decide_eq_true (by kernel_rfl)) (fun wx hC hL => ?_) (fun v hv => ?_)
  · go_simp
    exact H1.out wx hC
  obtain ⟨_, _, rfl⟩ := hv
  simp only [Act.put, List.setIfInBounds_toArray, List.set_cons_zero, List.set_cons_succ]
  repeat (
    refine' walkR_plain (by kernel_rfl) rfl rfl (fun wx hC hL => ?_) ?_
    rotate_left
    · (have hlw := Nat.lt_of_lt_of_le lp (Below.size hC)
       simp only [X0 wx hC, X1 wx hC, X2 wx hC, X3 wx hC, hlw, go_sem]; first | done | (go_simp; exact ⟨rfl, rfl⟩))
    simp only [Act.put, List.setIfInBounds_toArray, List.set_cons_zero, List.set_cons_succ])
  refine walkR_rel (by kernel_rfl) rfl rfl (of_decide_eq_true (by kernel_rfl)) (fun wx hC hL => ?_) (fun v hv => ?_)
  · go_simp
    exact H2.out wx hC
  obtain ⟨_, _, rfl⟩ := hv
  simp only [Act.put, List.setIfInBounds_toArray, List.set_cons_zero, List.set_cons_succ]
  repeat (
    refine' walkR_plain (by kernel_rfl) rfl rfl (fun wx hC hL => ?_) ?_
    rotate_left
    · (have hlw := Nat.lt_of_lt_of_le lp (Below.size hC)
       simp only [X0 wx hC, X1 wx hC, X2 wx hC, X3 wx hC, hlw, go_sem]; first | done | (go_simp; exact ⟨rfl, rfl⟩))
    simp only [Act.put, List.setIfInBounds_toArray, List.set_cons_zero, List.set_cons_succ])
  refine fun w3 hC3 _ => ?_
  have HB3 := hidIt (HB.out.trans (Below.mono hC3 HB.out.size))
  clear hC3 X0 X1 X2 X3 H1 H2 lp
  go_wp2_with fail
  go_ret
  refine ⟨?_, HB3.out⟩
  rw [HT.out]
  rfl

end Go.Proofs.YtfcoplplkbeljaaGreatDoor

namespace Go.Proofs.YtfcoplplkbeljaaGreatDoor
set_option linter.unusedVariables false
set_option linter.unusedSimpArgs false
open Go.RowKit

theorem ret_str' {a b : ByteArray} (h : a = b) : Ending.returned (.string a) = .returned (.string b) := by rw [h]

/-- Block b is a row of these strings. -/
def StrRow (w : World) (b : Nat) (l : List ByteArray) : Prop := w.heap[b]? = some (.cells (l.map Value.string).toArray 9 (0, 0))

theorem setCell_heap_self {w : World} {b k : Nat} {c : Array Value} {t : TypeId} (h : w.heap[b]? = some (.cells c t (0, 0))) (x : Value) : (w.setCell ⟨b, k, none⟩ x).heap[b]? = some (.cells (c.setIfInBounds k x) t (0, 0)) := by
  have hlt := lt_of_block h
  have h' : w.heap[b] = .cells c t (0, 0) := by simpa [Array.getElem?_eq_getElem hlt] using h
  show (w.heap.modify b _)[b]? = _
  rw [Array.getElem?_eq_getElem (by simpa using hlt), Array.getElem_modify_self, h']
  rfl

section
variable {w w' : World} {b : Nat} {l : List ByteArray}
theorem StrRow.lt (h : StrRow w b l) : b < w.heap.size := lt_of_block h
theorem StrRow.cell (h : StrRow w b l) (k : Nat) (hk : k < l.length) : w.cell? ⟨b, k, none⟩ = some (.string l[k]) := by
  unfold StrRow at h
  simp [World.cell?, h, hk]
theorem StrRow.free (h : StrRow w b l) (k : Nat) : w.frozen? ⟨b, k, none⟩ = false := free_any h k
theorem StrRow.set (h : StrRow w b l) (k : Nat) (s : ByteArray) : StrRow (w.setCell ⟨b, k, none⟩ (.string s)) b (l.set k s) := by
  unfold StrRow
  rw [setCell_heap_self h]
  simp
theorem StrRow.kept (h : StrRow w b l) (hb : Below w.heap.size w w') : StrRow w' b l := blk_kept2 h hb
theorem StrRow.alloc (h : StrRow w b l) (o : Obj) : StrRow (w.alloc o) b l := h.kept ((Below.refl _ _).alloc (Nat.le_refl _) o)
theorem StrRow.made (w : World) (n : Nat) : StrRow (w.alloc (.cells (madeCells #[.string ⟨#[]⟩] n) 9)) w.heap.size (List.replicate n ⟨#[]⟩) := by
  unfold StrRow
  rw [heap_alloc_new]
  have e : madeCells #[.string ⟨#[]⟩] n = ((List.replicate n (⟨#[]⟩ : ByteArray)).map Value.string).toArray := by
    apply Array.ext
    · simp [madeCells]
    · intro i h1 h2
      simp [madeCells, Nat.mod_one]
  rw [e]
end

theorem infoS' : (Tryz.prog.info? 9).map (fun i => (i.zero, i.size, i.bytes)) = some (some (.string ⟨#[]⟩), 1, 16) := by kernel_rfl

theorem make_strs' (n : Nat) (hn : n ≤ 1000000000) (w : World) : (Instr.makeSlice 38 (.int .i64 (n : Int)) (.int .i64 (n : Int))).run Tryz.prog w = .ok (.slice (some ⟨w.heap.size, 0, none⟩) n n) (w.alloc (.cells (madeCells #[.string ⟨#[]⟩] n) 9)) := by
  obtain ⟨i0, hi, hz0, hz1, hz2⟩ := info_parts infoS'
  have hr := run_make (P := Tryz.prog) w 38 9 i0 _ Tryz.underlying38 hi hz0 .i64 .i64 (n : Int) (n : Int) (by omega) (by omega) (by rw [hz2]; omega) (by omega)
  rw [hz1] at hr
  simp only [Int.toNat_natCast, Nat.mul_one] at hr
  exact hr
end Go.Proofs.YtfcoplplkbeljaaGreatDoor

namespace Go.Proofs.YtfcoplplkbeljaaGreatDoor
set_option linter.unusedVariables false
set_option linter.unusedSimpArgs false
open Go Go.RowKit

def joinT (sep : ByteArray) (l : List ByteArray) : ByteArray := ⟨(Lib.join (l.map (·.data.toList)) sep.data.toList).toArray⟩
/-- The text of a body, with the space behind it. -/
def bodyT (xs : List Lt) : ByteArray := if xs.length = 0 then ⟨#[]⟩ else joinT ⟨#[44, 32]⟩ (xs.map litT) ++ ⟨#[32]⟩

theorem joinTail_len (sep : List UInt8) (m : Nat) (l : List (List UInt8)) (h : ∀ x ∈ l, x.length ≤ m) : (Lib.joinTail sep l).length ≤ l.length * (m + sep.length) := by
  induction l with
  | nil => simp [Lib.joinTail]
  | cons x r ih =>
    have h1 := h x (by simp)
    have h2 := ih (fun z hz => h z (by simp [hz]))
    have e : (Lib.joinTail sep (x :: r)).length = sep.length + x.length + (Lib.joinTail sep r).length := by simp [Lib.joinTail]; try omega
    rw [e, List.length_cons, Nat.add_mul, Nat.one_mul]
    omega
theorem join_len (sep : List UInt8) (m : Nat) (l : List (List UInt8)) (h : ∀ x ∈ l, x.length ≤ m) : (Lib.join l sep).length ≤ l.length * (m + sep.length) := by
  cases l with
  | nil => simp [Lib.join]
  | cons x r =>
    have h1 := h x (by simp)
    have h2 := joinTail_len sep m r (fun z hz => h z (by simp [hz]))
    have e : (Lib.join (x :: r) sep).length = x.length + (Lib.joinTail sep r).length := by
      rw [Lib.join_cons, List.length_append]
    rw [e, List.length_cons, Nat.add_mul, Nat.one_mul]
    omega

theorem take_set_snoc5 {α : Type} (l p : List α) (k : Nat) (x : α) (hl : k < l.length) (hp : k < p.length) (hx : x = p[k]) (h : l.take k = p.take k) : (l.set k x).take (k + 1) = p.take (k + 1) := by
  rw [List.take_add_one, List.take_add_one, List.take_set_of_le (Nat.le_refl k), h, List.getElem?_set_self hl, List.getElem?_eq_getElem hp, hx]

set_option maxRecDepth 100000 in
set_option maxHeartbeats 1000000 in
theorem bodyText_any (xs : List Lt) (hx : ∀ x ∈ xs, x.name.size ≤ 12) (hn : xs.length ≤ 5000) (v : Value) (w : World) (hv : BodyAt w v xs) :
    Calls Tryz.prog 138 #[v] w fun e w' => e = .returned (.string (bodyT xs)) ∧ Below w.heap.size w w' := by
  obtain ⟨a, cap, rfl, hlen, hcap, hrow⟩ := hv.form
  have HR := hidIt hrow
  have HX := hidIt hx
  have hl1 : xs.length ≤ 9223372036854775807 := by omega
  clear hv hrow hx
  by_cases h0 : xs.length = 0
  · have HE : Hid (bodyT xs = ⟨#[]⟩) := by show _ = _; unfold bodyT; rw [if_pos h0]
    generalize bodyT xs = T at *
    rw [h0] at hlen ⊢
    clear HR HX
    go_enter Tryz.func138, Tryz.ntmps138
    go_wp2_with fail
    go_ret
    exact ⟨by rw [HE.out]; rfl, Below.refl _ _⟩
  have HE : Hid (bodyT xs = joinT ⟨#[44, 32]⟩ (xs.map litT) ++ ⟨#[32]⟩) := by show _ = _; unfold bodyT; rw [if_neg h0]
  generalize bodyT xs = T at *
  have hb0 : (((xs.length : Nat) : Int) == 0) = false := by rw [beq_eq_false_iff_ne]; omega
  have h0I : ¬ ((xs.length : Nat) : Int) = 0 := by omega
  have hmk := fun w => make_strs' xs.length (by omega) w
  obtain ⟨parts, hparts⟩ : ∃ p, p = xs.map litT := ⟨_, rfl⟩
  have hpl : parts.length = xs.length := by rw [hparts, List.length_map]
  have HPK : Hid (∀ k (h1 : k < parts.length) (h2 : k < xs.length), parts[k] = litT xs[k]) := by
    intro k h1 h2
    subst hparts
    simp only [List.getElem_map]
  have HPS : Hid ((Lib.join (parts.map (·.data.toList)) (⟨#[44, 32]⟩ : ByteArray).data.toList).length ≤ 75000) := by
    have := join_len (⟨#[44, 32]⟩ : ByteArray).data.toList 13 (parts.map (·.data.toList)) (fun y hy => by
      obtain ⟨z, hz, rfl⟩ := List.mem_map.1 hy
      rw [hparts] at hz
      obtain ⟨x, hx, rfl⟩ := List.mem_map.1 hz
      have := lit_size (HX.out x hx)
      show (litT x).data.toList.length ≤ 13
      rw [Array.length_toList]
      exact this)
    have e2 : (⟨#[44, 32]⟩ : ByteArray).data.toList.length = 2 := rfl
    rw [e2, List.length_map, hpl] at this
    show _ ≤ _
    omega
  rw [← hparts] at HE
  clear hparts h0
  go_enter Tryz.func138, Tryz.ntmps138
  go_wp2_with fail
  go_loopw [4, 5, 14] (fun _ _ i wr => ∃ (k : Nat) (l : List ByteArray), k ≤ xs.length ∧ i = .int .i64 k ∧ Hid (l.length = xs.length) ∧ Hid (l.take k = parts.take k) ∧ Hid (StrRow wr w.heap.size l) ∧ Hid (Below w.heap.size w wr)) (fun _ _ i _ => xs.length - (intOf i).toNat)
  case atStart => exact ⟨0, List.replicate xs.length ⟨#[]⟩, Nat.zero_le _, rfl, by show _ = _; simp, by show _ = _; simp, StrRow.made w _, (Below.refl _ _).alloc (Nat.le_refl _) _⟩
  case round =>
    clear hmk
    obtain ⟨k, l, hk, rfl, hll, hlk, hrow, hbel⟩ := hrel
    by_cases hlt : k < xs.length
    · obtain ⟨b, off, rfl, hbl, c0', c1'⟩ := HR.out k hlt
      have c0 := (hbel.out.cell (p := ⟨b, off + k * 2, none⟩) hbl).trans c0'
      have c1 := (hbel.out.cell (p := ⟨b, off + k * 2 + 1, none⟩) hbl).trans c1'
      have hbl2 := Nat.lt_of_lt_of_le hbl hbel.out.size
      have hltI : (k : Int) < (xs.length : Int) := by omega
      have hk0 : (0 : Int) ≤ (k : Int) := by omega
      have HPk := hidIt (HPK.out k (by omega) hlt)
      have hxs := HX.out _ (List.getElem_mem hlt)
      have hgr := bgrow wr (.cells #[.bool xs[k].neg, .string xs[k].name] 46)
      have HRW := hidIt (hrow.out.kept hgr)
      have HBB := hidIt (hbel.out.trans (hgr.mono hbel.out.size))
      clear c0' c1' hbl hgr
      go_wp2_with fail
      refine (format_any xs[k].neg xs[k].name _ (Nat.le_trans hxs (by unfold maxLen; omega))).mono ?_
      rintro e w1 ⟨rfl, hb1⟩
      have hrow' := HRW.out.kept hb1
      have HRR := hidIt hrow'
      have s0 := hrow'.cell k (by rw [hll.out]; exact hlt)
      have f0 := hrow'.free k
      have hsz := hrow'.lt
      have HB := hidIt (HBB.out.trans (hb1.mono HBB.out.size))
      clear hb1 hrow' c0 c1 hbl2
      go_wp2_with fail
      go_roundw
      case rel =>
        exact ⟨k + 1, l.set k (litT xs[k]), by omega, by go_num, by show _ = _; rw [List.length_set]; exact hll.out,
          take_set_snoc5 l parts k _ (by rw [hll.out]; exact hlt) (by omega) HPk.out.symm hlk.out, HRR.out.set k _, HB.out.setCell (Nat.le_refl _) _⟩
      case measure => simp [intOf]; omega
    · have hkn : k = xs.length := by omega
      have hlp : Hid (l = parts) := by
        have := hlk.out
        rwa [List.take_of_length_le (by rw [hll.out]; omega), List.take_of_length_le (by omega)] at this
      have hrow' := hrow.out
      rw [hlp.out] at hrow'
      have HJ := hidIt (Tryz.strings_Join w.heap.size 0 xs.length parts ⟨#[44, 32]⟩ wr (fun j x hj => by
        obtain ⟨hj1, hj2⟩ := List.getElem?_eq_some_iff.1 hj
        rw [Nat.zero_add, ← hj2]
        exact hrow'.cell j hj1) hrow'.lt (by omega) (by omega) (Nat.le_trans HPS.out (by omega)))
      rw [hpl] at HJ
      have HJ2 : Hid (Calls Tryz.prog 176 #[.slice (some ⟨w.heap.size, 0, none⟩) xs.length xs.length, .string ⟨#[44, 32]⟩] wr fun e w' => e = .returned (.string (joinT ⟨#[44, 32]⟩ parts)) ∧ Below wr.heap.size wr w') := HJ.out
      have HZ : Hid ((joinT ⟨#[44, 32]⟩ parts).size ≤ 75000) := by
        show (Lib.join _ _).toArray.size ≤ 75000
        rw [List.size_toArray]
        exact HPS.out
      generalize joinT ⟨#[44, 32]⟩ parts = J at *
      have hJz := HZ.out
      have hJ1 : ¬ 9223372036854775807 < J.size + 1 := by omega
      clear hrow' hkn HJ
      go_wp2_with fail
      refine HJ2.out.mono ?_
      rintro e w2 ⟨rfl, hb2⟩
      have HB2 := hidIt (hbel.out.trans (hb2.mono hbel.out.size))
      clear hb2
      go_wp2_with fail
      go_ret
      refine ⟨?_, HB2.out⟩
      rw [HE.out]
      rfl

end Go.Proofs.YtfcoplplkbeljaaGreatDoor

namespace Go.Proofs.YtfcoplplkbeljaaGreatDoor
set_option linter.unusedVariables false
set_option linter.unusedSimpArgs false
open Go Go.RowKit

/-- The line of a rule with a rank of one digit. -/
def ruleT (r : Ru) (n : Nat) : ByteArray :=
  (if r.strict then (⟨#[115, 116, 114, 105, 99, 116, 32]⟩ : ByteArray) ++ r.name else (⟨#[114, 117, 108, 101, 32]⟩ : ByteArray) ++ r.name ++ ⟨#[32]⟩ ++ digT n) ++ ⟨#[58, 32]⟩ ++ bodyT r.body ++ (if r.strict then (⟨#[45, 62]⟩ : ByteArray) else ⟨#[61, 62]⟩) ++ ⟨#[32]⟩ ++ litT r.head

theorem bodyT_size (xs : List Lt) (hx : ∀ x ∈ xs, x.name.size ≤ 12) (hn : xs.length ≤ 5000) : (bodyT xs).size ≤ 80000 := by
  unfold bodyT
  by_cases h0 : xs.length = 0
  · rw [if_pos h0]; exact Nat.zero_le _
  · rw [if_neg h0, ByteArray.size_append]
    have := join_len (⟨#[44, 32]⟩ : ByteArray).data.toList 13 ((xs.map litT).map (·.data.toList)) (fun y hy => by
      obtain ⟨z, hz, rfl⟩ := List.mem_map.1 hy
      obtain ⟨x, hx', rfl⟩ := List.mem_map.1 hz
      have := lit_size (hx x hx')
      show (litT x).data.toList.length ≤ 13
      rw [Array.length_toList]
      exact this)
    have e2 : (⟨#[44, 32]⟩ : ByteArray).data.toList.length = 2 := rfl
    rw [e2, List.length_map, List.length_map] at this
    have e3 : (joinT ⟨#[44, 32]⟩ (xs.map litT)).size = (Lib.join ((xs.map litT).map (·.data.toList)) (⟨#[44, 32]⟩ : ByteArray).data.toList).length := by
      show (Lib.join _ _).toArray.size = _
      rw [List.size_toArray]
    have e4 : (⟨#[32]⟩ : ByteArray).size = 1 := rfl
    omega

set_option maxRecDepth 100000 in
set_option maxHeartbeats 2000000 in
theorem ruleLine_any (r : Ru) (n : Nat) (hn : n < 10) (hr : r.rank = (n : Int)) (h1 : r.name.size ≤ 12) (h2 : r.head.name.size ≤ 12) (h3 : ∀ x ∈ r.body, x.name.size ≤ 12) (h4 : r.body.length ≤ 5000) (a : Option Addr) (cap : Nat) (w : World) (hv : BodyAt w (.slice a r.body.length cap) r.body) :
    Calls Tryz.prog 95 #[.agg #[.string r.name, .bool r.strict, .int .i64 r.rank, .slice a r.body.length cap, .bool r.head.neg, .string r.head.name]] w fun e w' => e = .returned (.string (ruleT r n)) ∧ Below w.heap.size w w' := by
  obtain ⟨nm, st, rk, xs, ⟨hg, hs⟩⟩ := r
  simp only at hr h1 h2 h3 h4 hv ⊢
  subst hr
  have HV := hidIt hv
  have hgr := bgrow w (.cells #[.string nm, .bool st, .int .i64 (n : Int), .slice a xs.length cap, .bool hg, .string hs] 64)
  have HB := hidIt hgr
  have HY := hidIt (hv.below hgr)
  have HK := hidIt (heap_alloc_new w (.cells #[.string nm, .bool st, .int .i64 (n : Int), .slice a xs.length cap, .bool hg, .string hs] 64))
  have hds := dig_size n hn
  have hls := lit_size (x := ⟨hg, hs⟩) h2
  have hbs := bodyT_size xs h3 h4
  have HT : Hid (ruleT ⟨nm, st, n, xs, ⟨hg, hs⟩⟩ n = (if st then (⟨#[115, 116, 114, 105, 99, 116, 32]⟩ : ByteArray) ++ nm else (⟨#[114, 117, 108, 101, 32]⟩ : ByteArray) ++ nm ++ ⟨#[32]⟩ ++ digT n) ++ ⟨#[58, 32]⟩ ++ bodyT xs ++ (if st then (⟨#[45, 62]⟩ : ByteArray) else ⟨#[61, 62]⟩) ++ ⟨#[32]⟩ ++ litT ⟨hg, hs⟩) := by show _ = _; rfl
  generalize ruleT ⟨nm, st, n, xs, ⟨hg, hs⟩⟩ n = T at *
  have HI : Hid (∀ wx : World, Calls Tryz.prog 137 #[.int .i64 (n : Int)] wx fun e w' => e = .returned (.string (digT n)) ∧ w' = wx) := fun wx => Tryz.strconv_Itoa_small n (by omega) wx
  have HM : Hid (∀ wx : World, Calls Tryz.prog 139 #[.agg #[.bool hg, .string hs]] wx fun e w' => e = .returned (.string (litT ⟨hg, hs⟩)) ∧ Below wx.heap.size wx w') := fun wx => format_any hg hs wx (Nat.le_trans h2 (by unfold maxLen; omega))
  have HBT : Hid (∀ wx : World, BodyAt wx (.slice a xs.length cap) xs → Calls Tryz.prog 138 #[.slice a xs.length cap] wx fun e w' => e = .returned (.string (bodyT xs)) ∧ Below wx.heap.size wx w') := fun wx h => bodyText_any xs h3 h4 _ wx h
  generalize digT n = d at *
  generalize litT ⟨hg, hs⟩ = t at *
  generalize bodyT xs = y at *
  clear hv hgr
  have q1 : ¬ 9223372036854775807 < 5 + nm.size := by omega
  have q2 : ¬ 9223372036854775807 < 5 + nm.size + 1 := by omega
  have q3 : ¬ 9223372036854775807 < 5 + nm.size + 1 + d.size := by omega
  have q4 : ¬ 9223372036854775807 < 7 + nm.size := by omega
  have r1 : ¬ 9223372036854775807 < 5 + nm.size + 1 + d.size + 2 := by omega
  have r2 : ¬ 9223372036854775807 < 5 + nm.size + 1 + d.size + 2 + y.size := by omega
  have r3 : ¬ 9223372036854775807 < 5 + nm.size + 1 + d.size + 2 + y.size + 2 := by omega
  have r4 : ¬ 9223372036854775807 < 5 + nm.size + 1 + d.size + 2 + y.size + 2 + 1 := by omega
  have r5 : ¬ 9223372036854775807 < 5 + nm.size + 1 + d.size + 2 + y.size + 2 + 1 + t.size := by omega
  have t1 : ¬ 9223372036854775807 < 7 + nm.size + 2 := by omega
  have t2 : ¬ 9223372036854775807 < 7 + nm.size + 2 + y.size := by omega
  have t3 : ¬ 9223372036854775807 < 7 + nm.size + 2 + y.size + 2 := by omega
  have t4 : ¬ 9223372036854775807 < 7 + nm.size + 2 + y.size + 2 + 1 := by omega
  have t5 : ¬ 9223372036854775807 < 7 + nm.size + 2 + y.size + 2 + 1 + t.size := by omega
  clear hds hls hbs
  go_enter Tryz.func95, Tryz.ntmps95
  go_wp2_with fail
  generalize (w.alloc (.cells #[.string nm, .bool st, .int .i64 (n : Int), .slice a xs.length cap, .bool hg, .string hs] 64)) = w2 at *
  obtain ⟨p0, p1, p2, p3, p4, p5⟩ := bcell6 HK.out
  have lp := lt_of_block HK.out
  have X0 : ∀ wx, Ext w2 wx → wx.cell? ⟨w.heap.size, 0, none⟩ = some (.string nm) := fun wx hC => ext_cell p0 lp hC
  have X1 : ∀ wx, Ext w2 wx → wx.cell? ⟨w.heap.size, 1, none⟩ = some (.bool st) := fun wx hC => ext_cell p1 lp hC
  have X2 : ∀ wx, Ext w2 wx → wx.cell? ⟨w.heap.size, 2, none⟩ = some (.int .i64 (n : Int)) := fun wx hC => ext_cell p2 lp hC
  have X3 : ∀ wx, Ext w2 wx → wx.cell? ⟨w.heap.size, 3, none⟩ = some (.slice a xs.length cap) := fun wx hC => ext_cell p3 lp hC
  have X4 : ∀ wx, Ext w2 wx → wx.cell? ⟨w.heap.size, 4, none⟩ = some (.bool hg) := fun wx hC => ext_cell p4 lp hC
  have X5 : ∀ wx, Ext w2 wx → wx.cell? ⟨w.heap.size, 5, none⟩ = some (.string hs) := fun wx hC => ext_cell p5 lp hC
  have H1 : Hid (∀ wx, Ext w2 wx → Calls Tryz.prog 137 #[.int .i64 (n : Int)] wx fun e w'' => ∃ u, e = .returned u ∧ Ext w2 w'' ∧ Grows wx w'' ∧ isV (.string d) u w'') := fun wx hC => rel_call hC ((HI.out wx).mono fun e w'' ⟨he, hw⟩ => ⟨_, he, rfl, by rw [hw]; exact Below.refl _ _⟩)
  clear p0 p1 p2 p3 p4 p5
  haveI : Nonempty (In (Ext w2)) := Ext.nonempty w2
  refine wp_region_rel (Ext w2) Grows (relTab [(11, isV (.string d))]) (by kernel_rfl) (by kernel_rfl) (by kernel_rfl) (stable_cons (isV_up _) (stable_nil _)) (Ext.start w2) ?_
  repeat (
    refine' walkR_plain (by kernel_rfl) rfl rfl (fun wx hC hL => ?_) ?_
    rotate_left
    · (have hlw := Nat.lt_of_lt_of_le lp (Below.size hC)
       simp only [X0 wx hC, X1 wx hC, X2 wx hC, X3 wx hC, X4 wx hC, X5 wx hC, hlw, go_sem]; first | done | (go_simp; exact ⟨rfl, rfl⟩))
    simp only [Act.put, List.setIfInBounds_toArray, List.set_cons_zero, List.set_cons_succ])
  refine walkR_rel (by kernel_rfl) rfl rfl (of_decide_eq_true (by kernel_rfl)) (fun wx hC hL => ?_) (fun v hv => ?_)
  · go_simp
    exact H1.out wx hC
  obtain ⟨_, _, rfl⟩ := hv
  simp only [Act.put, List.setIfInBounds_toArray, List.set_cons_zero, List.set_cons_succ]
  repeat (
    refine' walkR_plain (by kernel_rfl) rfl rfl (fun wx hC hL => ?_) ?_
    rotate_left
    · (have hlw := Nat.lt_of_lt_of_le lp (Below.size hC)
       simp only [X0 wx hC, X1 wx hC, X2 wx hC, X3 wx hC, X4 wx hC, X5 wx hC, hlw, go_sem]; first | done | (go_simp; exact ⟨rfl, rfl⟩))
    simp only [Act.put, List.setIfInBounds_toArray, List.set_cons_zero, List.set_cons_succ])
  refine fun w3 hC3 _ => ?_
  have HB3 := hidIt (HB.out.trans (Below.mono hC3 HB.out.size))
  have HY3 := hidIt (HY.out.below hC3)
  have HK3 := hidIt (blk_kept2 HK.out hC3)
  clear hC3 X0 X1 X2 X3 X4 X5 H1 lp HB HY HK
  obtain ⟨p0, p1, p2, p3, p4, p5⟩ := bcell6 HK3.out
  have lp := lt_of_block HK3.out
  have X0 : ∀ wx, Ext w3 wx → wx.cell? ⟨w.heap.size, 0, none⟩ = some (.string nm) := fun wx hC => ext_cell p0 lp hC
  have X1 : ∀ wx, Ext w3 wx → wx.cell? ⟨w.heap.size, 1, none⟩ = some (.bool st) := fun wx hC => ext_cell p1 lp hC
  have X2 : ∀ wx, Ext w3 wx → wx.cell? ⟨w.heap.size, 2, none⟩ = some (.int .i64 (n : Int)) := fun wx hC => ext_cell p2 lp hC
  have X3 : ∀ wx, Ext w3 wx → wx.cell? ⟨w.heap.size, 3, none⟩ = some (.slice a xs.length cap) := fun wx hC => ext_cell p3 lp hC
  have X4 : ∀ wx, Ext w3 wx → wx.cell? ⟨w.heap.size, 4, none⟩ = some (.bool hg) := fun wx hC => ext_cell p4 lp hC
  have X5 : ∀ wx, Ext w3 wx → wx.cell? ⟨w.heap.size, 5, none⟩ = some (.string hs) := fun wx hC => ext_cell p5 lp hC
  have H1 : Hid (∀ wx, Ext w3 wx → Calls Tryz.prog 138 #[.slice a xs.length cap] wx fun e w'' => ∃ u, e = .returned u ∧ Ext w3 w'' ∧ Grows wx w'' ∧ isV (.string y) u w'') := fun wx hC => rel_call hC ((HBT.out wx (HY3.out.below hC)).mono fun e w'' ⟨he, hb⟩ => ⟨_, he, rfl, hb⟩)
  have H2 : Hid (∀ wx, Ext w3 wx → Calls Tryz.prog 139 #[.agg #[.bool hg, .string hs]] wx fun e w'' => ∃ u, e = .returned u ∧ Ext w3 w'' ∧ Grows wx w'' ∧ isV (.string t) u w'') := fun wx hC => rel_call hC ((HM.out wx).mono fun e w'' ⟨he, hb⟩ => ⟨_, he, rfl, hb⟩)
  haveI : Nonempty (In (Ext w3)) := Ext.nonempty w3
  cases st
  · go_wp2_with fail
    refine wp_region_rel (Ext w3) Grows (relTab [(22, isV (.string y)), (29, isV (.string t))]) (by kernel_rfl) (by kernel_rfl) (by kernel_rfl) (stable_cons (isV_up _) (stable_cons (isV_up _) (stable_nil _))) (Ext.start w3) ?_
    repeat (
      refine' walkR_plain (by kernel_rfl) rfl rfl (fun wx hC hL => ?_) ?_
      rotate_left
      · (have hlw := Nat.lt_of_lt_of_le lp (Below.size hC)
         simp only [X0 wx hC, X1 wx hC, X2 wx hC, X3 wx hC, X4 wx hC, X5 wx hC, hlw, go_sem]; first | done | (go_simp; exact ⟨rfl, rfl⟩))
      simp only [Act.put, List.setIfInBounds_toArray, List.set_cons_zero, List.set_cons_succ])
    refine walkR_rel (by kernel_rfl) rfl rfl (of_decide_eq_true (by kernel_rfl)) (fun wx hC hL => ?_) (fun v hv => ?_)
    · go_simp
      exact H1.out wx hC
    obtain ⟨_, _, rfl⟩ := hv
    simp only [Act.put, List.setIfInBounds_toArray, List.set_cons_zero, List.set_cons_succ]
    repeat (
      refine' walkR_plain (by kernel_rfl) rfl rfl (fun wx hC hL => ?_) ?_
      rotate_left
      · (have hlw := Nat.lt_of_lt_of_le lp (Below.size hC)
         simp only [X0 wx hC, X1 wx hC, X2 wx hC, X3 wx hC, X4 wx hC, X5 wx hC, hlw, go_sem]; first | done | (go_simp; exact ⟨rfl, rfl⟩))
      simp only [Act.put, List.setIfInBounds_toArray, List.set_cons_zero, List.set_cons_succ])
    refine walkR_rel (by kernel_rfl) rfl rfl (of_decide_eq_true (by kernel_rfl)) (fun wx hC hL => ?_) (fun v hv => ?_)
    · go_simp
      exact H2.out wx hC
    obtain ⟨_, _, rfl⟩ := hv
    simp only [Act.put, List.setIfInBounds_toArray, List.set_cons_zero, List.set_cons_succ]
    repeat (
      refine' walkR_plain (by kernel_rfl) rfl rfl (fun wx hC hL => ?_) ?_
      rotate_left
      · (have hlw := Nat.lt_of_lt_of_le lp (Below.size hC)
         simp only [X0 wx hC, X1 wx hC, X2 wx hC, X3 wx hC, X4 wx hC, X5 wx hC, hlw, go_sem]; first | done | (go_simp; exact ⟨rfl, rfl⟩))
      simp only [Act.put, List.setIfInBounds_toArray, List.set_cons_zero, List.set_cons_succ])
    refine fun w4 hC4 _ => ?_
    have HB4 := hidIt (HB3.out.trans (Below.mono hC4 HB3.out.size))
    clear hC4 X0 X1 X2 X3 X4 X5 H1 H2 lp p0 p1 p2 p3 p4 p5
    go_wp2_with fail
    go_ret
    refine ⟨?_, HB4.out⟩
    rw [HT.out]
    rfl
  · go_wp2_with fail
    refine wp_region_rel (Ext w3) Grows (relTab [(22, isV (.string y)), (29, isV (.string t))]) (by kernel_rfl) (by kernel_rfl) (by kernel_rfl) (stable_cons (isV_up _) (stable_cons (isV_up _) (stable_nil _))) (Ext.start w3) ?_
    repeat (
      refine' walkR_plain (by kernel_rfl) rfl rfl (fun wx hC hL => ?_) ?_
      rotate_left
      · (have hlw := Nat.lt_of_lt_of_le lp (Below.size hC)
         simp only [X0 wx hC, X1 wx hC, X2 wx hC, X3 wx hC, X4 wx hC, X5 wx hC, hlw, go_sem]; first | done | (go_simp; exact ⟨rfl, rfl⟩))
      simp only [Act.put, List.setIfInBounds_toArray, List.set_cons_zero, List.set_cons_succ])
    refine walkR_rel (by kernel_rfl) rfl rfl (of_decide_eq_true (by kernel_rfl)) (fun wx hC hL => ?_) (fun v hv => ?_)
    · go_simp
      exact H1.out wx hC
    obtain ⟨_, _, rfl⟩ := hv
    simp only [Act.put, List.setIfInBounds_toArray, List.set_cons_zero, List.set_cons_succ]
    repeat (
      refine' walkR_plain (by kernel_rfl) rfl rfl (fun wx hC hL => ?_) ?_
      rotate_left
      · (have hlw := Nat.lt_of_lt_of_le lp (Below.size hC)
         simp only [X0 wx hC, X1 wx hC, X2 wx hC, X3 wx hC, X4 wx hC, X5 wx hC, hlw, go_sem]; first | done | (go_simp; exact ⟨rfl, rfl⟩))
      simp only [Act.put, List.setIfInBounds_toArray, List.set_cons_zero, List.set_cons_succ])
    refine walkR_rel (by kernel_rfl) rfl rfl (of_decide_eq_true (by kernel_rfl)) (fun wx hC hL => ?_) (fun v hv => ?_)
    · go_simp
      exact H2.out wx hC
    obtain ⟨_, _, rfl⟩ := hv
    simp only [Act.put, List.setIfInBounds_toArray, List.set_cons_zero, List.set_cons_succ]
    repeat (
      refine' walkR_plain (by kernel_rfl) rfl rfl (fun wx hC hL => ?_) ?_
      rotate_left
      · (have hlw := Nat.lt_of_lt_of_le lp (Below.size hC)
         simp only [X0 wx hC, X1 wx hC, X2 wx hC, X3 wx hC, X4 wx hC, X5 wx hC, hlw, go_sem]; first | done | (go_simp; exact ⟨rfl, rfl⟩))
      simp only [Act.put, List.setIfInBounds_toArray, List.set_cons_zero, List.set_cons_succ])
    refine fun w4 hC4 _ => ?_
    have HB4 := hidIt (HB3.out.trans (Below.mono hC4 HB3.out.size))
    clear hC4 X0 X1 X2 X3 X4 X5 H1 H2 lp p0 p1 p2 p3 p4 p5
    go_wp2_with fail
    go_ret
    refine ⟨?_, HB4.out⟩
    rw [HT.out]
    rfl

end Go.Proofs.YtfcoplplkbeljaaGreatDoor
