/- What the rows' list of variables gives the walks; a world for the witness. -/
import Derived.Test.YtfcoplplkbeljaaGreatDoorZ1F
import Derived.Test.YtfcoplplkbeljaaGreatDoorShelf
import Derived.Test.YtfcoplplkbeljaaGreatDoorCards
import Derived.Test.YtfcoplplkbeljaaGreatDoorTie
import Derived.Test.YtfcoplplkbeljaaGreatDoorFrame
import Derived.ProofKit
import Derived.OpenShut
import Derived.Deep.DeepHandedRow
import Derived.Lib.LaidTab
import Derived.Lib.LaidU8
import Derived.Lib.LaidRTab
import Derived.LaidLaws
import Derived.Lay
import Derived.MakeChecks

namespace Go.Proofs.YtfcoplplkbeljaaGreatDoor
set_option linter.unusedVariables false
set_option linter.unusedSimpArgs false
open Go.ChangeShapes Go.WideShapes Go.ChangeAt Go.RowKit

theorem gWords : Tryz.prog.globalNamed "deliberation/rulebase.premiseWords" = some 1 := by kernel_rfl
theorem gWordsT : (Tryz.prog.globals[1]?).map (·.type) = some 153 := by kernel_rfl
theorem gAsciiT : (Tryz.prog.globals[0]?).map (·.type) = some 146 := by kernel_rfl
theorem gErrS : Tryz.prog.globalNamed "strconv.ErrSyntax" = some 4 := by kernel_rfl
theorem gErrST : (Tryz.prog.globals[4]?).map (·.type) = some 163 := by kernel_rfl
theorem gErrR : Tryz.prog.globalNamed "strconv.ErrRange" = some 5 := by kernel_rfl
theorem gErrRT : (Tryz.prog.globals[5]?).map (·.type) = some 163 := by kernel_rfl
theorem gWhite : Tryz.prog.globalNamed "unicode.White_Space" = some 3 := by kernel_rfl
theorem gWhiteT : (Tryz.prog.globals[3]?).map (·.type) = some 184 := by kernel_rfl
theorem cells4 : Tryz.prog.cellsOf 153 = 4 := by kernel_rfl
theorem cells1 : Tryz.prog.cellsOf 9 = 1 := by kernel_rfl
theorem cells256 : Tryz.prog.cellsOf 146 = 256 := by kernel_rfl
theorem cellsu8 : Tryz.prog.cellsOf 5 = 1 := by kernel_rfl

/-- An array of strings that reads as these holds these. -/
theorem cells_of_texts {H : Type} {enc : TypeId × Value → H} {P : Program} {w : World} {base : Nat} {sp : Nat → Bool} {held : Bool} {fuel : Nat} {t e : TypeId} {n : Nat} {cs : List Value} {zs : List (List UInt8)} {p : List MemPlace}
    (ht : P.underlying t = some (.array n e)) (he : P.underlying e = some .string) (hce : P.cellsOf e = 1) (hct : P.cellsOf t = n)
    (h : DataW.trod enc P w base sp held fuel t cs = some (.agg (zs.map fun z => .lit (.string z)), p)) : cs = zs.map fun z => Value.string ⟨z.toArray⟩ := by
  obtain ⟨xs, m, rfl, hx, hl, hn, hel⟩ := DataW.trod_array ht h
  have hxs : xs.map (·.1) = zs.map fun z => (DataW.lit (.string z) : DataW H) := by
    have := congrArg Prod.fst hx
    simpa using this.symm
  have hzl : zs.length = n := by
    have := congrArg List.length hxs
    simp at this
    omega
  apply List.ext_getElem?
  intro i
  by_cases hi : i < n
  · have hx2 : i < xs.length := by omega
    have hf := hel i hi
    rw [List.getElem?_eq_getElem hx2, hce, Nat.mul_one] at hf
    obtain ⟨s, hc, hsx, -⟩ := DataW.trod_string he hf
    have h1 : cs[i]? = some (.string s) := by
      have := congrArg (·[0]?) hc
      simpa [List.getElem?_take, List.getElem?_drop] using this
    have h2 : (xs.map (·.1))[i]? = some (DataW.lit (.string s.data.toList) : DataW H) := by
      rw [List.getElem?_map, List.getElem?_eq_getElem hx2, hsx]
      rfl
    rw [hxs] at h2
    simp only [List.getElem?_map, Option.map_eq_some_iff, DataW.lit.injEq, Lit.string.injEq] at h2
    obtain ⟨z', hz', e2⟩ := h2
    rw [h1, List.getElem?_map, hz', e2]
    rfl
  · rw [List.getElem?_eq_none (by omega), List.getElem?_eq_none (by simp; omega)]


theorem words_of_reads {W : World} (h : Lib.VarReads Tryz.prog W "deliberation/rulebase.premiseWords" Rows.laid_deliberation_rulebase_premiseWords) : WordsAt W := by
  obtain ⟨g', t', cs, fuel, p, hg', ht', hvar, hd⟩ := h
  obtain rfl := Option.some.inj (gWords.symm.trans hg')
  obtain rfl := Option.some.inj (gWordsT.symm.trans ht')
  have hc := cells_of_texts (zs := [[], [97, 120, 105, 111, 109], [112, 114, 101, 109, 105, 115, 101], [97, 115, 115, 117, 109, 101]]) Tryz.underlying153 Tryz.underlying9 cells1 cells4 hd
  have hcell := World.var?_cell gWords hvar
  have hcs : cs = #[.string ⟨#[]⟩, .string ⟨#[97, 120, 105, 111, 109]⟩, .string ⟨#[112, 114, 101, 109, 105, 115, 101]⟩, .string ⟨#[97, 115, 115, 117, 109, 101]⟩] := by
    apply Array.ext'
    rw [hc]
    rfl
  subst hcs
  exact ⟨lt_of_cellE (hcell 0), hcell 0, hcell 1, hcell 2, hcell 3⟩
theorem iface_of_reads {W : World} {n : String} {g : Nat} {nm : String} {d : DataW Unit} (hg : Tryz.prog.globalNamed n = some g) (ht : (Tryz.prog.globals[g]?).map (·.type) = some 163) (h : Lib.VarReads Tryz.prog W n (.iface nm d)) : ∃ t p, W.cell? ⟨g, 0, none⟩ = some (.iface t p) := by
  obtain ⟨g', t', cs, fuel, p, hg', ht', hvar, hd⟩ := h
  obtain rfl := Option.some.inj (hg.symm.trans hg')
  obtain rfl := Option.some.inj (ht.symm.trans ht')
  obtain ⟨f, u, v, hcs, -, -⟩ := iface_of_trod Tryz.underlying163 hd
  refine ⟨u, v, ?_⟩
  rw [World.var?_cell hg hvar 0, ← Array.getElem?_toList, hcs]
  rfl

/-- The table of white space. -/
def whiteRT : Lib.RTab := ⟨#[(9, 13, 1), (32, 133, 101), (160, 5760, 5600), (8192, 8202, 1), (8232, 8233, 1), (8239, 8287, 48), (12288, 12288, 1)], #[], 2⟩
theorem white_data : (Rows.laid_unicode_White_Space : DataW Unit) = Lib.rtabData whiteRT := by kernel_rfl
theorem rextra : RExtra Tryz.prog Tryz.lays261_ren := ⟨by kernel_rfl, by kernel_rfl, by kernel_rfl, by kernel_rfl, by kernel_rfl, by kernel_rfl, by kernel_rfl, by kernel_rfl⟩
theorem tab_exact {W : World} {T : Lib.RTab} {name : String} {g : Nat} (hn : Tryz.prog.globalNamed name = some g) (hy : (Tryz.prog.globals[g]?).map (·.type) = some 184) (hp : 0 < T.r16.size) (h0 : T.r32.size = 0)
    (h : Lib.VarReads Tryz.prog W name (Lib.rtabData T)) :
    ∃ Tb oT R o, W.cell? ⟨g, 0, none⟩ = some (.pointer (some ⟨Tb, oT, none⟩)) ∧ W.cell? ⟨Tb, oT, none⟩ = some (.slice (some ⟨R, o, none⟩) T.r16.size T.r16.size) ∧
      W.cell? ⟨Tb, oT + 1, none⟩ = some (.slice none 0 0) ∧ W.cell? ⟨Tb, oT + 2, none⟩ = some (.int .i64 T.off) ∧ Lib.RgTab .u16 R o T.r16 W := by
  have hv := rvar_of_reads Tryz.lays261 rextra hn hy h
  obtain ⟨Tb, oT, k0, a16, a32, R16, o16, c16, R32, o32, c32, k1, k2, k3, e16, e32, t16, t32, hc16⟩ := hv
  obtain ⟨g', t', cs, fuel, p, hg', ht', hvar, hd⟩ := h
  obtain rfl := Option.some.inj (hn.symm.trans hg')
  obtain rfl := Option.some.inj (hy.symm.trans ht')
  obtain ⟨f2, a, cs', q, hcs, hcells, h2, -⟩ := ptr_of_trod Tryz.underlying184 hd
  have hk := World.var?_cell hn hvar 0
  rw [← Array.getElem?_toList, hcs] at hk
  have hk2 : W.cell? ⟨g, 0, none⟩ = some (.pointer (some a)) := hk
  have ha : a = ⟨Tb, oT, none⟩ := (Option.some.inj (Value.pointer.inj (Option.some.inj (k0.symm.trans hk2)))).symm
  subst ha
  rw [show Tryz.prog.cellsOf 208 = 3 by kernel_rfl] at hcells
  obtain ⟨_, hl', hc'⟩ := World.cells?_some hcells
  obtain ⟨xs, n', rfl, hxs, _, hxl, hall⟩ := DataW.trod_struct Tryz.underlying208 h2
  have hx3 : xs.map (·.1) = [Lib.rgSlice .u16 T.r16, Lib.rgSlice .u32 T.r32, .lit (.int .i64 T.off)] := by
    have := congrArg Prod.fst hxs
    simpa using this.symm
  obtain ⟨x0, x1, x2, rfl⟩ : ∃ x0 x1 x2, xs = [x0, x1, x2] := by
    match xs, hx3 with
    | [x0, x1, x2], _ => exact ⟨x0, x1, x2, rfl⟩
  simp only [List.map_cons, List.map_nil, List.cons.injEq, and_true] at hx3
  obtain ⟨e0, e1, -⟩ := hx3
  have f0 := hall 0 _ rfl
  have f1 := hall 1 _ rfl
  change DataW.trod _ _ _ _ _ _ _ (Tryz.lays261_ren.t 193) ((cs'.drop 0).take (Tryz.prog.cellsOf (Tryz.lays261_ren.t 193))) = some x0 at f0
  change DataW.trod _ _ _ _ _ _ _ (Tryz.lays261_ren.t 194) ((cs'.drop 1).take (Tryz.prog.cellsOf (Tryz.lays261_ren.t 194))) = some x1 at f1
  rw [rextra.c193] at f0
  rw [rextra.c194] at f1
  have atk : ∀ {k : Nat} {v : Value}, (cs'.drop k).take 1 = [v] → cs'[k]? = some v := fun {k v} hh => by
    have := congrArg (·[0]?) hh
    simpa [List.getElem?_take, List.getElem?_drop] using this
  have A0 := hc' 0 (by omega)
  have A1 := hc' 1 (by omega)
  rw [Addr.add_lit] at A0 A1
  rw [Nat.add_zero, k1] at A0
  rw [k2] at A1
  have hc : c16 = T.r16.size := by
    rcases DataW.trod_slice Tryz.lays261.t193 f0 with ⟨hcs, hx'⟩ | ⟨a', len, cap, el, rs, m, rfl, hc0, hx', _, hlc, _, hel, helem, hsp, _⟩
    · rw [hx', Lib.rgSlice, if_neg (by omega)] at e0
      cases e0
    · have hv := A0.trans (atk hc0)
      rw [hx', Lib.rgSlice, if_neg (by omega)] at e0
      have hz : rs = [] := List.map_eq_nil_iff.1 (DataW.slice.inj e0).2
      have hs := (hsp rfl).1
      rw [hz] at hs
      simp only [List.length_nil] at hs
      obtain ⟨-, hv1, hv2⟩ := Value.slice.inj (Option.some.inj hv)
      omega
  have hd : a32 = none ∧ c32 = 0 := by
    rcases DataW.trod_slice Tryz.lays261.t194 f1 with ⟨hcs, hx'⟩ | ⟨a', len, cap, el, rs, m, rfl, hc0, hx', _, hlc, _, hel, helem, hsp, _⟩
    · have hv := A1.trans (atk hcs)
      obtain ⟨hv0, -, hv2⟩ := Value.slice.inj (Option.some.inj hv)
      exact ⟨hv0, hv2⟩
    · rw [hx', Lib.rgSlice, if_pos h0] at e1
      cases e1
  obtain ⟨rfl, rfl⟩ := hd
  rw [hc, e16 hp] at k1
  rw [h0] at k2
  exact ⟨Tb, oT, R16, o16, k0, k1, k2, k3, t16⟩
theorem white_of_reads {W : World} (h : Lib.VarReads Tryz.prog W "unicode.White_Space" Rows.laid_unicode_White_Space) : Lib.WhiteTab 3 W := by
  rw [white_data] at h
  obtain ⟨Tb, oT, R, o, k0, k1, k2, k3, t⟩ := tab_exact gWhite gWhiteT (by decide) rfl h
  refine ⟨Tb, oT, R, o, k0, k1, k2, k3, fun i hi => ?_⟩
  have hall : ∀ j, j < 7 → W.cell? ⟨R, o + j * 3, none⟩ = some (.int .u16 (Lib.whiteT.getD (j * 3) 0)) ∧ W.cell? ⟨R, o + j * 3 + 1, none⟩ = some (.int .u16 (Lib.whiteT.getD (j * 3 + 1) 0)) ∧ W.cell? ⟨R, o + j * 3 + 2, none⟩ = some (.int .u16 (Lib.whiteT.getD (j * 3 + 2) 0)) := by
    intro j hj
    have hh := t j hj
    have : j = 0 ∨ j = 1 ∨ j = 2 ∨ j = 3 ∨ j = 4 ∨ j = 5 ∨ j = 6 := by omega
    rcases this with rfl | rfl | rfl | rfl | rfl | rfl | rfl <;> exact hh
  have hh := hall (i / 3) (by omega)
  have hm : i % 3 = 0 ∨ i % 3 = 1 ∨ i % 3 = 2 := by omega
  rcases hm with hm | hm | hm
  · have := hh.1
    rw [show i / 3 * 3 = i by omega] at this
    exact this
  · have := hh.2.1
    rw [show o + i / 3 * 3 + 1 = o + i by omega, show i / 3 * 3 + 1 = i by omega] at this
    exact this
  · have := hh.2.2
    rw [show o + i / 3 * 3 + 2 = o + i by omega, show i / 3 * 3 + 2 = i by omega] at this
    exact this
theorem env_of_laid {l : List (String × DataW Unit)} {W : World} (hp : (l.all fun x => x.2.handleName?.isNone) = true) (h : laidMetH Tryz.prog l W)
    (h1 : ("deliberation/rulebase.premiseWords", Rows.laid_deliberation_rulebase_premiseWords) ∈ l) (h2 : ("strings.asciiSpace", Rows.laid_strings_asciiSpace) ∈ l) (h3 : ("strconv.ErrSyntax", Rows.laid_strconv_ErrSyntax) ∈ l) (h4 : ("strconv.ErrRange", Rows.laid_strconv_ErrRange) ∈ l) (h5 : ("unicode.White_Space", Rows.laid_unicode_White_Space) ∈ l) : EnvOk W := by
  rw [MakeChecks.laidMetH_plain _ _ _ hp] at h
  obtain ⟨ps, hv, -, -⟩ := h
  refine ⟨words_of_reads (Lib.LaidVars_reads hv _ _ h1), iface_of_reads gErrS gErrST (Lib.LaidVars_reads hv _ _ h3), iface_of_reads gErrR gErrRT (Lib.LaidVars_reads hv _ _ h4), ?_, white_of_reads (Lib.LaidVars_reads hv _ _ h5)⟩
  obtain ⟨g', t', cs, fuel, p, hg', ht', hvar, hd⟩ := Lib.LaidVars_reads hv _ _ h2
  obtain rfl := Option.some.inj (gAscii.symm.trans hg')
  obtain rfl := Option.some.inj (gAsciiT.symm.trans ht')
  have e : (Rows.laid_strings_asciiSpace : DataW Unit) = Lib.tabData .u8 Lib.asciiSpaceTab := by kernel_rfl
  rw [e] at hd
  unfold Lib.TabIs
  rw [hvar, ← Lib.cells_of_tab Tryz.underlying146 Tryz.underlying5 cellsu8 cells256 hd]

/-- A start for the witness. -/
theorem witness_row_shaped {H : Type} {enc : TypeId × Value → H} {C : Checked} {os : Os} {f : FuncId} {fn : Func} {s : OpenSpec} {conds : List PathCond} {apart : Bool} {laid : List (String × DataW Unit)} (modest : Bool) (w0 : World) (args : Array Value) (hos : w0.os = os)
    (hsh : (w0.forCall (fun _ _ => 0) ⟨#[], args, []⟩).Shaped C.prog) (hok : Input.okWideB C.prog (w0.forCall (fun _ _ => 0) ⟨#[], args, []⟩) f ⟨#[], args, []⟩ = true)
    (hrow : s.preRow enc C.prog fn conds apart laid (w0.forCall (fun _ _ => 0) ⟨#[], args, []⟩).memory args) :
    ∃ (w : World) (tape : Tape) (i : Input), w.os = os ∧ (w.forCall tape i).Shaped C.prog ∧ i.vars = [] ∧ Input.okWide C.prog (w.forCall tape i) .any w.heap.size f i ∧
      s.preRow enc C.prog fn conds apart laid (w.forCall tape i).memory i.args ∧ ({ modest := modest } : Assume).holds C.prog (lone (Frame.enter C.prog f i.args .normal) [] (w.forCall tape i)) :=
  ⟨w0, fun _ _ => 0, ⟨#[], args, []⟩, hos, hsh, (Input.okWide_of_okWideB (base := 0) hok).1, (Input.okWide_of_okWideB hok).2, hrow, by
    simp only [Assume.holds]
    exact ⟨by simp, by simp, fun _ => Modest.zero, by simp, by simp⟩⟩
end Go.Proofs.YtfcoplplkbeljaaGreatDoor
