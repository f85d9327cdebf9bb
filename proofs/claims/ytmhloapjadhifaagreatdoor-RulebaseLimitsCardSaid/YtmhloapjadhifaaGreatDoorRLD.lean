/- A list of literals in memory: two cells for each; the laws on stores into it. slices.Compact at a list of literals: for every list, the elements that differ from the one ahead of them; the library's own two loops are walked. The reference's Premise, for every rule base. What Validate says of a premise, a promotion. What Validate says of a promotion. The body of a rule: is a literal of it not valid, is it equal to another list. A value that is a list of literals: where its cells lie, and what keeps it so. literal.Normal, for every list: a copy, sorted by the order of literals, each once. A region that draws its order, whose operations may give values that hang on the order (new memory's addresses): each such value is known by a relation of its own, laid ahead; one walk in the order of the text serves every order. An operation may lean on the relations of those temporaries alone that it looks at. A region that draws its order, in a class of worlds: one walk in the order of the text serves every order, where each operation leaves the world alone or is a call that gives one value and leaves a world of the class. Steps of the walk of XRel, whatever the program; a table of relations. What Validate says of a rule. The reader's premises, promotions and rules; the kind of a word. The reader's promotions. The reader's rules. A rule base that a call builds: a box of three rows that the call owns. Validate of a rule base. The lines of the text of a rule base. A row of strings that a call made. The text of a body. The line of a rule. The line of a premise. strings.Builder: copyCheck, WriteString at this seat. -/
import Derived.Shelf.GgSortFunc.RowK
import Derived.Lib.SlicesCompact
import Derived.Lib.SliceRun
import Derived.Laws.IdiomCopy
import Derived.Deep.LoopGhost
import Derived.Laws.StructEq
import Derived.Deep.QuietTactic
import Derived.BigQuiet
import Derived.WalkKit
import Derived.Laws.MakeOwn
import Derived.Lib.Builder
import Derived.Test.YtmhloapjadhifaaGreatDoorRLA
import Derived.Test.YtmhloapjadhifaaGreatDoorRLB
import Derived.Test.YtmhloapjadhifaaGreatDoorRLC

namespace Go.Proofs.YtmhloapjadhifaaGreatDoor
set_option linter.unusedVariables false
set_option linter.unusedSimpArgs false
open Go.RowKit Go.Sort

instance : Inhabited Lt := ⟨⟨false, ⟨#[]⟩⟩⟩

/-- The two cells of a literal. -/
def encL (x : Lt) : List Value := [.bool x.neg, .string x.name]
theorem encL_len (x : Lt) : (encL x).length = 2 := rfl
theorem encL_one (x : Lt) : ∀ v ∈ encL x, v.oneCell' = true := fun v hv => by
  simp only [encL, List.mem_cons, List.not_mem_nil, or_false] at hv
  rcases hv with rfl | rfl <;> rfl

theorem encL_get0 (x : Lt) : (encL x)[0]! = .bool x.neg := rfl
theorem encL_get1 (x : Lt) : (encL x)[1]! = .string x.name := rfl

theorem flat_set (d : Array Lt) (i : Nat) (x : Lt) (hi : i < d.size) : setMany (flatK encL 2 d) (i * 2) (encL x) = flatK encL 2 (d.setIfInBounds i x) := by
  refine ext_get! (by simp) fun t ht => ?_
  have ht' : t < d.size * 2 := by simpa using ht
  rw [get_setMany _ _ _ t (by simpa using ht'), get_flatK _ _ _ t ht', get_flatK _ _ _ t (by simpa using ht'), encL_len]
  by_cases h : t / 2 = i
  · rw [if_pos (by omega), h, getElem!_set_same d i x hi, show t - i * 2 = t % 2 by omega]
  · rw [if_neg (by omega), getElem!_set_other d i (t / 2) x h]

theorem size_lay' : ∀ (xs : List Lt) (d : Array Lt) (k : Nat), (Lib.lay d k xs).size = d.size
  | [], _, _ => rfl
  | x :: r, d, k => by rw [Lib.lay, size_lay' r]; simp

/-- The flat row behind a run of whole elements. -/
theorem flat_lay (d d2 : Array Lt) (k : Nat) (hk : k + d2.size ≤ d.size) : setMany (flatK encL 2 d) (k * 2) (flatK encL 2 d2).toList = flatK encL 2 (Lib.lay d k d2.toList) := by
  have hsz : (Lib.lay d k d2.toList).size = d.size := size_lay' _ _ _
  refine ext_get! (by simp [hsz]) fun t ht => ?_
  have ht' : t < d.size * 2 := by simpa using ht
  have hl : (flatK encL 2 d2).toList.length = d2.size * 2 := by simp
  rw [get_setMany _ _ _ t (by simpa using ht'), get_flatK _ _ _ t ht', get_flatK _ _ _ t (by rw [hsz]; exact ht'), hl]
  have hg := Lib.lay_get? d2.toList d k (t / 2) (by simpa using hk)
  by_cases h : k ≤ t / 2 ∧ t / 2 < k + d2.size
  · rw [if_pos (by omega)]
    rw [if_pos (by simpa using h)] at hg
    have e1 : (flatK encL 2 d2).toList[t - k * 2]! = (encL d2[(t - k * 2) / 2]!)[(t - k * 2) % 2]! := by
      have := get_flatK encL 2 d2 (t - k * 2) (by omega)
      rw [← this]
      simp [getElem!_def]
    rw [e1, show (t - k * 2) / 2 = t / 2 - k by omega, show (t - k * 2) % 2 = t % 2 by omega]
    have e2 : (Lib.lay d k d2.toList)[t / 2]! = d2[t / 2 - k]! := by
      rw [getElem!_def, getElem!_def, hg]
      simp
    rw [e2]
  · rw [if_neg (by omega)]
    rw [if_neg (by simpa using h)] at hg
    have e2 : (Lib.lay d k d2.toList)[t / 2]! = d[t / 2]! := by rw [getElem!_def, getElem!_def, hg]
    rw [e2]

/-- A literal stored at place i of a row, a draw on. -/
theorem store_row {w wr : World} {n blk off : Nat} {dk : Array Lt} {i : Nat} (hi : i < dk.size) (hwr : wr = putRowK encL 2 (Sort.ahead w n) blk off dk) (x : Lt) :
    (wr.setCell ⟨blk, off + i * 2, none⟩ (.bool x.neg)).setCell ⟨blk, off + i * 2 + 1, none⟩ (.string x.name) = putRowK encL 2 (Sort.ahead w n) blk off (dk.setIfInBounds i x) := by
  subst hwr
  have h := setCells_putRow (Sort.ahead w n) blk off (encL x) (i * 2) (flatK encL 2 dk) (by rw [encL_len, size_flatK]; omega)
  rw [flat_set dk i x hi] at h
  exact h

theorem HoldsK.at0 {w : World} {blk off : Nat} {d : Array Lt} (h : HoldsK encL 2 w blk off d) {i : Nat} (hi : i < d.size) :
    (w.cell? ⟨blk, off + i * 2, none⟩ = some (.bool d[i]!.neg) ∧ w.frozen? ⟨blk, off + i * 2, none⟩ = false) ∧ w.cell? ⟨blk, off + i * 2 + 1, none⟩ = some (.string d[i]!.name) ∧ w.frozen? ⟨blk, off + i * 2 + 1, none⟩ = false :=
  ⟨HoldsK.cell h hi (show 0 < 2 by omega), HoldsK.cell h hi (show 1 < 2 by omega)⟩

/-- The zero value's cells, n times over. -/
theorem zero_cells (n : Nat) : (Builtin.zeroCells (Value.cells (.agg #[.bool false, .string ⟨#[]⟩])) n) = flatK encL 2 (Array.replicate n (default : Lt)) := by
  have hs : (Value.cells (.agg #[.bool false, .string ⟨#[]⟩])) = #[.bool false, .string ⟨#[]⟩] := rfl
  unfold Builtin.zeroCells flatK
  rw [hs]
  apply Array.ext
  · simp
  · intro i h1 h2
    have hi : i / 2 < n := by simp at h1; omega
    simp only [Array.getElem_map, Array.getElem_range, Array.size_replicate]
    have hd : (Array.replicate n (default : Lt))[i / 2]! = default := by rw [getElem!_pos _ _ (by simpa using hi)]; simp
    rw [hd]
    rcases Nat.mod_two_eq_zero_or_one i with h | h <;> (show (#[_, _] : Array Value)[i % 2]! = (encL default)[i % 2]!; rw [h]; rfl)

theorem zeroL (w : World) : (zeroValue 28).run Tryz.prog w = .ok (.agg #[.bool false, .string ⟨#[]⟩]) w := by kernel_rfl

/-- 'clear' of the rest of a row. -/
theorem clear_row (w : World) (ty : TypeId) (blk off n c : Nat) (hn : 0 < n) (d : Array Lt) (k : Nat) (hk : k + n = d.size) (hH : HoldsK encL 2 w blk off d) (w0 : World) (q : Nat) (hw : w = putRowK encL 2 (Sort.ahead w0 q) blk off d) :
    (Builtin.clear_ #[58] ty #[.slice (some ⟨blk, off + k * 2, none⟩) n c]).run Tryz.prog w = .ok (.tuple #[]) (putRowK encL 2 (Sort.ahead w0 q) blk off (Lib.lay d k (List.replicate n default))) := by
  have hz := zero_cells n
  have hst := run_storeCells_cells (P := Tryz.prog) blk (off + k * 2) (flatK encL 2 (Array.replicate n (default : Lt))).toList 0 w
    (fun j hj => by
      have hj' : j < n * 2 := by simpa using hj
      have h1 := hH (k * 2 + j) (by rw [size_flatK]; omega)
      rw [show off + k * 2 + 0 + j = off + (k * 2 + j) by omega, h1.1]; rfl)
    (fun j hj => by
      have hj' : j < n * 2 := by simpa using hj
      have h1 := hH (k * 2 + j) (by rw [size_flatK]; omega)
      rw [show off + k * 2 + 0 + j = off + (k * 2 + j) by omega, h1.2])
    (fun v hv => by
      rw [← hz] at hv
      simp only [Builtin.zeroCells, Array.toList_map, List.mem_map] at hv
      obtain ⟨i, _, rfl⟩ := hv
      rcases Nat.mod_two_eq_zero_or_one i with h | h <;> (show ((#[_, _] : Array Value)[i % 2]!).oneCell' = true; rw [h]; rfl))
  simp only [Nat.add_zero] at hst
  have hfin : w.setCells blk (off + k * 2) (flatK encL 2 (Array.replicate n (default : Lt))).toList = putRowK encL 2 (Sort.ahead w0 q) blk off (Lib.lay d k (List.replicate n default)) := by
    subst hw
    have h := setCells_putRow (Sort.ahead w0 q) blk off (flatK encL 2 (Array.replicate n (default : Lt))).toList (k * 2) (flatK encL 2 d) (by simp; omega)
    rw [flat_lay d _ k (by simp; omega), Array.toList_replicate] at h
    exact h
  rw [hfin] at hst
  obtain ⟨m, rfl⟩ : ∃ m, n = m + 1 := ⟨n - 1, by omega⟩
  simp [Builtin.clear_, run_underlying Tryz.underlying58, zeroL, hz, hst]
end Go.Proofs.YtmhloapjadhifaaGreatDoor

namespace Go.Proofs.YtmhloapjadhifaaGreatDoor
set_option linter.unusedVariables false
set_option linter.unusedSimpArgs false
open Go.RowKit Go.Sort Go.Lib

theorem litStruct : Tryz.prog.underlying 28 = some (.struct (Tryz.prog.fieldsOf 28)) := by kernel_rfl
theorem litStood : Tryz.prog.stoodInHeld 28 = false := by kernel_rfl
theorem litGuard : Tryz.prog.eqGuardType Tryz.prog.depth 28 = false := by kernel_rfl

theorem eqFieldsL (g g' : Bool) (s s' : ByteArray) (w : World) : (Op.equalIn 10000 28 (.agg #[.bool g, .string s]) (.agg #[.bool g', .string s'])).run Tryz.prog w = .ok (decide ((⟨g, s⟩ : Lt) = ⟨g', s'⟩)) w := by
  have u4 := Tryz.underlying4
  have u9 := Tryz.underlying9
  have e : (decide ((⟨g, s⟩ : Lt) = ⟨g', s'⟩)) = ((g == g') && (s.toList == s'.toList)) := by
    rw [names_same, Bool.eq_iff_iff]
    simp [Lt.mk.injEq]
  rw [show (10000 : Nat) = 9999 + 1 from rfl, run_equalIn_agg w 9999 28 _ _ litStruct litStood, e]
  simp only [Program.fieldsOf, Tryz.underlying28]
  go_simp
  by_cases h1 : g = g' <;> by_cases h2 : s.toList = s'.toList <;> simp [h1, h2]

theorem eqL (g g' : Bool) (s s' : ByteArray) (w : World) : (binOp .eql 28 (.agg #[.bool g, .string s]) (.agg #[.bool g', .string s'])).run Tryz.prog w = .ok (.bool (decide ((⟨g, s⟩ : Lt) = ⟨g', s'⟩))) w := by
  rw [run_eql_struct, eqFieldsL]
  rfl
theorem neL (g g' : Bool) (s s' : ByteArray) (w : World) : (binOp .neq 28 (.agg #[.bool g, .string s]) (.agg #[.bool g', .string s'])).run Tryz.prog w = .ok (.bool (!decide ((⟨g, s⟩ : Lt) = ⟨g', s'⟩))) w := by
  rw [run_neq_struct, eqFieldsL]
  rfl
theorem gdL (op : BinOp) (x y : Operand) (g g' : Bool) (s s' : ByteArray) (w : World) : (eqGuard op 28 x y (.agg #[.bool g, .string s]) (.agg #[.bool g', .string s'])).run Tryz.prog w = .ok () w := run_eqGuard_agg w op 28 x y _ _ litGuard

theorem store_drew {w wr : World} {n blk off : Nat} {dk : Array Lt} {i : Nat} (hi : i < dk.size) (hwr : wr = putRowK encL 2 (Sort.ahead w n) blk off dk) (x : Lt) :
    ((wr.setCell ⟨blk, off + i * 2, none⟩ (.bool x.neg)).setCell ⟨blk, off + i * 2 + 1, none⟩ (.string x.name)).drew = putRowK encL 2 (Sort.ahead w (n + 1)) blk off (dk.setIfInBounds i x) := by
  rw [store_row hi hwr x]
  rfl

/-- What the row holds behind Compact. -/
def cpt (d : Array Lt) : List Lt := compactUpTo d d.size
def cptRow (d : Array Lt) : Array Lt := (cpt d ++ List.replicate (d.size - (cpt d).length) default).toArray

set_option maxHeartbeats 4000000 in
set_option maxRecDepth 1000000 in
theorem compact_any (blk off cap : Nat) (d : Array Lt) (w : World) (hH : HoldsK encL 2 w blk off d) (hsz : d.size ≤ 9223372036854775807) (hcap : d.size ≤ cap) :
    Calls Tryz.prog 146 #[.slice (some ⟨blk, off, none⟩) d.size cap] w fun e w' => e = .returned (.slice (some ⟨blk, off, none⟩) (cpt d).length cap) ∧ ∃ q, w' = putRowK encL 2 (Sort.ahead w q) blk off (cptRow d) := by
  have same : ∀ q, (∀ j, j < d.size → keeps d j = true) → (cpt d).length = d.size ∧ w.drewN q = putRowK encL 2 (Sort.ahead w q) blk off (cptRow d) := by
    intro q hall
    have e : cpt d = d.toList := by rw [cpt, compactUpTo_all d _ hall, range_map_get]
    rw [cptRow, e]
    refine ⟨by simp, ?_⟩
    simp only [Array.length_toList, Nat.sub_self, List.replicate_zero, List.append_nil, Array.toArray_toList]
    exact (putRowK_self encL 2 (Sort.ahead w q) blk off d (holdsK_ahead encL 2 w q blk off d hH)).symm
  have HS := hidIt same
  clear same
  by_cases h2 : d.size < 2
  · have HH := hidIt hH
    clear hH
    go_enter Tryz.func146, Tryz.ntmps146
    go_wp2
    go_ret
    obtain ⟨e1, e2⟩ := HS.out 0 (fun j hj => keeps_lt_one d j (by omega))
    exact ⟨by rw [e1]; rfl, 0, e2⟩
  · go_enter Tryz.func146, Tryz.ntmps146
    go_wp2
    go_loopg [3] d.size (fun g s3 wr => ∃ k q : Nat, 1 ≤ k ∧ k ≤ d.size ∧ d.size - k ≤ g ∧ s3 = .int .i64 k ∧ wr = w.drewN q ∧ ∀ j, j < k → keeps d j = true)
    case atStart => exact ⟨1, 0, Nat.le_refl _, by omega, by omega, rfl, rfl, keeps_lt_one d⟩
    case round =>
      obtain ⟨k, q, hk1, hk, hg, rfl, rfl, hall⟩ := hrel
      by_cases hlt : k < d.size
      · obtain ⟨⟨c1, f1⟩, c1', f1'⟩ := HoldsK.at0 hH hlt
        obtain ⟨⟨c0, f0⟩, c0', f0'⟩ := HoldsK.at0 hH (show k - 1 < d.size by omega)
        have A := hidIt hall
        have HH := hidIt hH
        clear hall hH
        generalize hx : d[k]! = x at c1 c1'
        generalize hy : d[k - 1]! = y at c0 c0'
        have B := hidIt (And.intro hx hy)
        clear hx hy f0 f1 f0' f1'
        obtain ⟨gx, sx⟩ := x
        obtain ⟨gy, sy⟩ := y
        simp only at c0 c0' c1 c1'
        by_cases hdup : (⟨gx, sx⟩ : Lt) = ⟨gy, sy⟩
        · injection hdup with e1 e2
          subst e1 e2
          have hq : ∀ w, (Op.equalIn 10000 28 (.agg #[.bool gx, .string sx]) (.agg #[.bool gx, .string sx])).run Tryz.prog w = .ok true w := fun w => by rw [eqFieldsL]; simp
          have hgd := fun (op : BinOp) (a b : Operand) (w : World) => gdL op a b gx gx sx sx w
          have hwr : IntKind.i64.wrap ((k : Int) - 1) = ((k : Int) - 1) := IntWalk.i64_in _ (by omega)
          go_wp2_with fail
          go_region
          go_wp2
          clear c0 c1 c0' c1' hq hgd hwr
          go_loopg [3, 5] d.size (fun g s3 s5 wr => ∃ (kk k2 q2 : Nat) (dk : Array Lt), s3 = .int .i64 kk ∧ s5 = .int .i64 k2 ∧ 1 ≤ k2 ∧ k + k2 ≤ d.size ∧ d.size - (k + k2) ≤ g ∧ wr = putRowK encL 2 (Sort.ahead w q2) blk off dk ∧ CompInv d (k + k2) kk dk)
          case atStart => exact ⟨k, 1, q + 1, d, rfl, rfl, Nat.le_refl _, by omega, by omega, (putRowK_self encL 2 (Sort.ahead w (q + 1)) blk off d (holdsK_ahead encL 2 w (q + 1) blk off d HH.out)).symm, CompInv.start A.out (keeps_neg (by omega) (by rw [B.out.1, B.out.2]))⟩
          case round =>
            obtain ⟨kk, k2, q2, dk, rfl, rfl, h1, hle, hg2, hwr, hI⟩ := hrel
            have hkk := hI.lt
            have hds := hI.size
            have hHk : HoldsK encL 2 wr blk off dk := by rw [hwr]; exact holdsK_putRowK encL 2 _ blk off d dk (holdsK_ahead encL 2 w q2 blk off d HH.out) hds
            have W2 := hidIt hwr
            have I2 := hidIt hI
            clear hwr
            by_cases hlt2 : k + k2 < d.size
            · obtain ⟨⟨cm, _⟩, cm', _⟩ := HoldsK.at0 hHk (show k + k2 < dk.size by omega)
              obtain ⟨⟨cp, _⟩, cp', _⟩ := HoldsK.at0 hHk (show k + k2 - 1 < dk.size by omega)
              obtain ⟨⟨ck, fk⟩, ck', fk'⟩ := HoldsK.at0 hHk (show kk < dk.size by omega)
              rw [hI.high (k + k2) (by omega), show off + (k + k2) * 2 = off + k * 2 + k2 * 2 by omega] at cm cm'
              rw [hI.high (k + k2 - 1) (by omega), show off + (k + k2 - 1) * 2 = off + k * 2 + (k2 - 1) * 2 by omega] at cp cp'
              clear hHk hI
              generalize hu : d[k + k2]! = u at cm cm'
              generalize hv : d[k + k2 - 1]! = v at cp cp'
              generalize dk[kk]! = old at ck ck'
              have C := hidIt (And.intro hu hv)
              clear hu hv
              obtain ⟨gu, su⟩ := u
              obtain ⟨gv, sv⟩ := v
              simp only at cm cm' cp cp'
              have hwr : IntKind.i64.wrap ((k2 : Int) - 1) = ((k2 : Int) - 1) := IntWalk.i64_in _ (by omega)
              by_cases huv : (⟨gu, su⟩ : Lt) = ⟨gv, sv⟩
              · injection huv with e1 e2
                subst e1 e2
                have hq : ∀ w, (Op.equalIn 10000 28 (.agg #[.bool gu, .string su]) (.agg #[.bool gu, .string su])).run Tryz.prog w = .ok true w := fun w => by rw [eqFieldsL]; simp
                have hgd := fun (op : BinOp) (a b : Operand) (w : World) => gdL op a b gu gu su su w
                go_wp2_with fail
                go_region
                go_wp2
                go_roundg (d.size - (k + (k2 + 1)))
                case measure => omega
                case rel => exact ⟨kk, k2 + 1, q2 + 1, dk, rfl, by go_num, by omega, by omega, Nat.le_refl _, by rw [W2.out]; rfl, I2.out.skip (keeps_neg (by omega) (by rw [C.out.1, C.out.2]))⟩
              · have hq : ∀ w, (Op.equalIn 10000 28 (.agg #[.bool gu, .string su]) (.agg #[.bool gv, .string sv])).run Tryz.prog w = .ok false w := fun w => by rw [eqFieldsL]; simp only [huv, decide_false]
                have hgd := fun (op : BinOp) (a b : Operand) (w : World) => gdL op a b gu gv su sv w
                have HU := hidIt huv
                clear huv
                go_wp2_with fail
                go_region
                go_wp2
                go_roundg (d.size - (k + (k2 + 1)))
                case measure => omega
                case rel => exact ⟨kk + 1, k2 + 1, q2 + 1, dk.setIfInBounds kk ⟨gu, su⟩, by go_num, by go_num, by omega, by omega, Nat.le_refl _, store_drew (by omega) W2.out ⟨gu, su⟩, by have := I2.out.keep hlt2 (keeps_pos (by rw [C.out.1, C.out.2]; exact HU.out)); rwa [C.out.1] at this⟩
            · have hend : k + k2 = d.size := by omega
              have hcl : ∀ ty, (Builtin.clear_ #[58] ty #[.slice (some ⟨blk, off + kk * 2, none⟩) (d.size - kk) (cap - kk)]).run Tryz.prog wr = .ok (.tuple #[]) (putRowK encL 2 (Sort.ahead w q2) blk off (Lib.lay dk kk (List.replicate (d.size - kk) default))) :=
                fun ty => clear_row wr ty blk off (d.size - kk) (cap - kk) (by omega) dk kk (by omega) hHk w q2 W2.out
              clear hHk hI
              go_wp2
              go_ret
              have hI := I2.out
              rw [hend] at hI
              have hlen : (cpt d).length = kk := hI.len
              refine ⟨by rw [hlen]; rfl, q2, ?_⟩
              rw [cptRow, hlen, cpt, ← hI.done default]
        · have hq : ∀ w, (Op.equalIn 10000 28 (.agg #[.bool gx, .string sx]) (.agg #[.bool gy, .string sy])).run Tryz.prog w = .ok false w := fun w => by rw [eqFieldsL]; simp only [hdup, decide_false]
          have hgd := fun (op : BinOp) (a b : Operand) (w : World) => gdL op a b gx gy sx sy w
          have hwr : IntKind.i64.wrap ((k : Int) - 1) = ((k : Int) - 1) := IntWalk.i64_in _ (by omega)
          have HU := hidIt hdup
          clear hdup
          go_wp2_with fail
          go_region
          go_wp2
          go_roundg (d.size - (k + 1))
          case measure => omega
          case rel =>
            refine ⟨k + 1, q + 1, by omega, by omega, Nat.le_refl _, by go_num, rfl, fun j hj => ?_⟩
            by_cases e : j = k
            · subst e
              exact keeps_pos (by rw [B.out.1, B.out.2]; exact HU.out)
            · exact A.out j (by omega)
      · have : k = d.size := by omega
        subst this
        have HH := hidIt hH
        clear hH
        go_wp2
        go_ret
        obtain ⟨e1, e2⟩ := HS.out q hall
        exact ⟨by rw [e1]; rfl, q, e2⟩
end Go.Proofs.YtmhloapjadhifaaGreatDoor

namespace Go.Proofs.YtmhloapjadhifaaGreatDoor
set_option linter.unusedVariables false
set_option linter.unusedSimpArgs false
open Go Go.RowKit

theorem hasLit_eq (x : Lt) (p : Pm) : hasLit x p = decide (p.lit = x) := by
  obtain ⟨⟨g, s⟩, _, _, _⟩ := p
  obtain ⟨g', s'⟩ := x
  unfold hasLit
  rw [Bool.eq_iff_iff]
  have := names_same s s'
  simp only [Bool.and_eq_true, beq_iff_eq, decide_eq_true_eq, Lt.mk.injEq]
  have h2 : (s.toList = s'.toList) ↔ s = s' := ⟨fun h => ByteArray.ext (Array.toList_inj.1 (by rw [← Lib.toList_data, ← Lib.toList_data]; exact h)), fun h => by rw [h]⟩
  rw [h2]

theorem r5premise_any (b : Bs) (v : Value) (x : Lt) (w : World) (hv : BaseAt w v b) :
    Calls Tryz.prog 24 #[v, .agg #[.bool x.neg, .string x.name]] w fun e w' => e = .returned (.int .i64 (posI (hasLit x) b.prems)) ∧ Below w.heap.size w w' := by
  obtain ⟨a1, a2, a3, c1, c2, c3, rfl, hlen, hcap, -, -, -, -, hr, -, -⟩ := hv.form
  have hgr := bgrow2 w (.cells #[.slice a1 b.prems.length c1, .slice a2 b.rules.length c2, .slice a3 b.proms.length c3] 26) (.cells #[.bool x.neg, .string x.name] 28)
  have HR := hidIt (hr.below hgr)
  have HG := hidIt hgr
  have HK := hidIt (blk_kept2 (heap_alloc_new w (.cells #[.slice a1 b.prems.length c1, .slice a2 b.rules.length c2, .slice a3 b.proms.length c3] 26)) (bgrow _ (.cells #[.bool x.neg, .string x.name] 28)))
  have HX0 := hidIt (cell_new0 (w.alloc (.cells #[.slice a1 b.prems.length c1, .slice a2 b.rules.length c2, .slice a3 b.proms.length c3] 26)) (.bool x.neg) [.string x.name] 28)
  have HX1 := hidIt (cell_new1 (w.alloc (.cells #[.slice a1 b.prems.length c1, .slice a2 b.rules.length c2, .slice a3 b.proms.length c3] 26)) (.bool x.neg) (.string x.name) [] 28)
  rw [size_alloc] at HX0 HX1
  have hl1 : b.prems.length ≤ 9223372036854775807 := by unfold maxLen at hcap; omega
  clear hv hr hgr
  go_enter Tryz.func24, Tryz.ntmps24
  go_wp2_with fail
  have hpb := lt_of_block HK.out
  have hpx : w.heap.size + 1 < ((w.alloc (.cells #[.slice a1 b.prems.length c1, .slice a2 b.rules.length c2, .slice a3 b.proms.length c3] 26)).alloc (.cells #[.bool x.neg, .string x.name] 28)).heap.size := by simp
  obtain ⟨k0, k1, k2⟩ := bcell3 HK.out
  have HK1 := hidIt k0
  have HPB := hidIt hpb
  have HPX := hidIt hpx
  have HY0 : Hid (_ = _) := HX0.out
  have HY1 : Hid (_ = _) := HX1.out
  clear k0 k1 k2 hpb hpx HX0 HX1
  generalize ((w.alloc (.cells #[.slice a1 b.prems.length c1, .slice a2 b.rules.length c2, .slice a3 b.proms.length c3] 26)).alloc (.cells #[.bool x.neg, .string x.name] 28)) = w1 at *
  have HROW := hidIt (RowIn.form HR.out)
  go_loopw [5] (fun i wr => ∃ k : Nat, k ≤ b.prems.length ∧ i = .int .i64 k ∧ Hid (Below w1.heap.size w1 wr) ∧ Hid (∀ j (hj : j < b.prems.length), j < k → hasLit x b.prems[j] = false)) (fun i _ => b.prems.length - (intOf i).toNat)
  case atStart => exact ⟨0, Nat.zero_le _, rfl, Below.refl _ _, fun j hj h => absurd h (by omega)⟩
  case round =>
    obtain ⟨k, hk, rfl, HBr, HF⟩ := hrel
    have HBw := hidIt (HG.out.trans (HBr.out.mono HG.out.size))
    have k1 := (HBr.out.cell (p := ⟨w.heap.size, 0, none⟩) HPB.out).trans HK1.out
    have hpb := Nat.lt_of_lt_of_le HPB.out HBr.out.size
    by_cases hlt : k < b.prems.length
    · have hkr := hlt
      obtain ⟨a2', c2', e2, -, -, hrow⟩ := HROW.out
      injection e2 with e2 e3 e4
      subst e2 e4
      obtain ⟨bb, off, rfl, hbl, d0', d1', -, -, -⟩ := hrow k hkr
      have d0 := (HBr.out.cell (p := ⟨bb, off + k * 5, none⟩) hbl).trans d0'
      have d1 := (HBr.out.cell (p := ⟨bb, off + k * 5 + 1, none⟩) hbl).trans d1'
      have hbl2 := Nat.lt_of_lt_of_le hbl HBr.out.size
      have hltI : (k : Int) < (b.prems.length : Int) := by omega
      have hk0 : (0 : Int) ≤ (k : Int) := by omega
      clear hrow d0' d1' hbl
      have hx0 := (HBr.out.cell (p := ⟨w.heap.size + 1, 0, none⟩) HPX.out).trans HY0.out
      have hx1 := (HBr.out.cell (p := ⟨w.heap.size + 1, 1, none⟩) HPX.out).trans HY1.out
      have hpx := Nat.lt_of_lt_of_le HPX.out HBr.out.size
      have hgd := fun (op : BinOp) (a b' : Operand) (w : World) => gdL op a b' b.prems[k].lit.neg x.neg b.prems[k].lit.name x.name w
      have HPK : Hid (hasLit x b.prems[k] = decide (b.prems[k].lit = x)) := hasLit_eq x b.prems[k]
      by_cases he : b.prems[k].lit = x
      · have hq : ∀ w, (Op.equalIn 10000 28 (.agg #[.bool b.prems[k].lit.neg, .string b.prems[k].lit.name]) (.agg #[.bool x.neg, .string x.name])).run Tryz.prog w = .ok true w := fun w => by rw [eqFieldsL, decide_eq_true]; exact he
        have HE := hidIt he
        clear he
        go_wp2_with fail
        go_quiet (fail)
        go_wp2_with fail
        go_ret
        refine ⟨?_, ⟨HBw.out.os, HBw.out.tape, HBw.out.output, HBw.out.size, HBw.out.block⟩⟩
        rw [posI_at (p := hasLit x) hkr (by rw [HPK.out, decide_eq_true HE.out]) (fun j hj => HF.out j (by omega) hj)]
        rfl
      · have hq : ∀ w, (Op.equalIn 10000 28 (.agg #[.bool b.prems[k].lit.neg, .string b.prems[k].lit.name]) (.agg #[.bool x.neg, .string x.name])).run Tryz.prog w = .ok false w := fun w => by rw [eqFieldsL, decide_eq_false]; exact he
        have HE := hidIt he
        clear he
        go_wp2_with fail
        go_quiet (fail)
        go_wp2_with fail
        go_roundw
        case rel =>
          refine ⟨k + 1, by omega, by go_num, ⟨HBr.out.os, HBr.out.tape, HBr.out.output, HBr.out.size, HBr.out.block⟩, fun j hj hjk => ?_⟩
          by_cases hjj : j < k
          · exact HF.out j hj hjj
          · obtain rfl : j = k := by omega
            rw [HPK.out, decide_eq_false HE.out]
        case measure => simp [intOf]; omega
    · obtain rfl : k = b.prems.length := by omega
      go_wp2_with fail
      go_ret
      refine ⟨?_, HBw.out⟩
      rw [posI_no (p := hasLit x) (fun j hj => HF.out j hj hj)]
      rfl

end Go.Proofs.YtmhloapjadhifaaGreatDoor

namespace Go.Proofs.YtmhloapjadhifaaGreatDoor
set_option linter.unusedVariables false
set_option linter.unusedSimpArgs false
open Go Go.RowKit

/-- Texts and numbers of a rule base are such as a program can hold. -/
def PmOk (p : Pm) : Prop := p.lit.name.size ≤ maxLen ∧ p.src.size ≤ maxLen ∧ I64 p.kind ∧ I64 p.rank
def RuOk (r : Ru) : Prop := r.name.size ≤ maxLen ∧ I64 r.rank ∧ r.head.name.size ≤ maxLen ∧ ∀ x ∈ r.body, x.name.size ≤ maxLen
def PrOk (p : Pr) : Prop := p.rule.size ≤ maxLen ∧ I64 p.rank ∧ p.lit.name.size ≤ maxLen
def BsOk (b : Bs) : Prop := (∀ p ∈ b.prems, PmOk p) ∧ (∀ r ∈ b.rules, RuOk r) ∧ ∀ p ∈ b.proms, PrOk p

theorem bcell5 {w : World} {b : Nat} {u0 u1 u2 u3 u4 : Value} {t : TypeId} (h : w.heap[b]? = some (.cells #[u0, u1, u2, u3, u4] t (0, 0))) : w.cell? ⟨b, 0, none⟩ = some u0 ∧ w.cell? ⟨b, 1, none⟩ = some u1 ∧ w.cell? ⟨b, 2, none⟩ = some u2 ∧ w.cell? ⟨b, 3, none⟩ = some u3 ∧ w.cell? ⟨b, 4, none⟩ = some u4 :=
  ⟨by simp [World.cell?, h], by simp [World.cell?, h], by simp [World.cell?, h], by simp [World.cell?, h], by simp [World.cell?, h]⟩
theorem bcell4 {w : World} {b : Nat} {u0 u1 u2 u3 : Value} {t : TypeId} (h : w.heap[b]? = some (.cells #[u0, u1, u2, u3] t (0, 0))) : w.cell? ⟨b, 0, none⟩ = some u0 ∧ w.cell? ⟨b, 1, none⟩ = some u1 ∧ w.cell? ⟨b, 2, none⟩ = some u2 ∧ w.cell? ⟨b, 3, none⟩ = some u3 :=
  ⟨by simp [World.cell?, h], by simp [World.cell?, h], by simp [World.cell?, h], by simp [World.cell?, h]⟩

/-- What is wrong with a premise, beside those before it: 4 no such kind, 1 out of range, 5 there already. -/
def premB (p : Pm) : Bool := vn p.lit.name && rankB p.rank (decide (p.kind = 2)) && srcB p.src
def premE (b : Bs) (p : Pm) (i : Nat) : Int := if ¬ (p.kind = 1 ∨ p.kind = 2 ∨ p.kind = 3) then 4 else if premB p = false then 1 else if posI (hasLit p.lit) b.prems < (i : Int) then 5 else 0

set_option maxHeartbeats 2000000 in
theorem valPrem_any (b : Bs) (hb : BsOk b) (v : Value) (i : Nat) (hi : i < b.prems.length) (w : World) (hv : BaseAt w v b) :
    Calls Tryz.prog 65 #[v, .int .i64 (i : Int)] w fun e w' => e = .returned (.int .i64 (premE b b.prems[i] i)) ∧ Below w.heap.size w w' := by
  have HVW := hidIt hv
  obtain ⟨a1, a2, a3, c1, c2, c3, rfl, hlen, hcap, -, -, -, -, hr, -, -⟩ := hv.form
  obtain ⟨o1, o2, o3, o4⟩ := hb.1 _ (List.getElem_mem hi)
  obtain ⟨a1', c1', e1, -, -, hrow⟩ := RowIn.form hr
  injection e1 with e1 e2 e3
  subst e1 e3
  obtain ⟨bb, off, rfl, hbl, d0, d1, d2, d3, d4⟩ := hrow i hi
  have hiI : (i : Int) < (b.prems.length : Int) := by omega
  have hi0 : (0 : Int) ≤ (i : Int) := by omega
  have hl1 : b.prems.length ≤ 9223372036854775807 := by unfold maxLen at hcap; omega
  generalize hp : b.prems[i] = p at *
  obtain ⟨⟨g, s⟩, kd, rk, sr⟩ := p
  simp only at d0 d1 d2 d3 d4 o1 o2 o3 o4
  have hgr := bgrow w (.cells #[.slice (some ⟨bb, off, none⟩) b.prems.length c1, .slice a2 b.rules.length c2, .slice a3 b.proms.length c3] 26)
  have x0 := (hgr.cell (p := ⟨bb, _, none⟩) hbl).trans d0
  have x1 := (hgr.cell (p := ⟨bb, _, none⟩) hbl).trans d1
  have x2 := (hgr.cell (p := ⟨bb, _, none⟩) hbl).trans d2
  have x3 := (hgr.cell (p := ⟨bb, _, none⟩) hbl).trans d3
  have x4 := (hgr.cell (p := ⟨bb, _, none⟩) hbl).trans d4
  have hbl2 := Nat.lt_of_lt_of_le hbl hgr.size
  have hg2 := bgrow2 w (.cells #[.slice (some ⟨bb, off, none⟩) b.prems.length c1, .slice a2 b.rules.length c2, .slice a3 b.proms.length c3] 26) (.cells #[.bool g, .string s, .int .i64 kd, .int .i64 rk, .string sr] 64)
  have HB0 := hidIt hg2
  have HV0 := hidIt (HVW.out.below hg2)
  have HK0 := hidIt (blk_kept2 (heap_alloc_new w (.cells #[.slice (some ⟨bb, off, none⟩) b.prems.length c1, .slice a2 b.rules.length c2, .slice a3 b.proms.length c3] 26)) (bgrow _ (.cells #[.bool g, .string s, .int .i64 kd, .int .i64 rk, .string sr] 64)))
  have HP0 := hidIt (heap_alloc_new (w.alloc (.cells #[.slice (some ⟨bb, off, none⟩) b.prems.length c1, .slice a2 b.rules.length c2, .slice a3 b.proms.length c3] 26)) (.cells #[.bool g, .string s, .int .i64 kd, .int .i64 rk, .string sr] 64))
  rw [size_alloc] at HP0
  clear hrow hr hv hgr hg2 hbl d0 d1 d2 d3 d4 HVW e2
  by_cases hkd : kd = 1 ∨ kd = 2 ∨ kd = 3
  case neg =>
    have n1 : ¬ kd = 1 := fun h => hkd (.inl h)
    have n2 : ¬ kd = 2 := fun h => hkd (.inr (.inl h))
    have n3 : ¬ kd = 3 := fun h => hkd (.inr (.inr h))
    have HE : Hid (premE b ⟨⟨g, s⟩, kd, rk, sr⟩ i = 4) := by show _ = _; unfold premE; rw [if_pos hkd]
    rw [HE.out]
    clear hkd
    go_enter Tryz.func65, Tryz.ntmps65
    go_wp2_with fail
    all_goals first | (go_ret; exact ⟨rfl, HB0.out⟩) | (exfalso; simp_all)
  case pos =>
  have HE : Hid (premE b ⟨⟨g, s⟩, kd, rk, sr⟩ i = if (vn s && rankB rk (decide (kd = 2)) && srcB sr) = false then 1 else if posI (hasLit ⟨g, s⟩) b.prems < (i : Int) then 5 else 0) := by show _ = _; unfold premE; rw [if_neg (fun h => h hkd)]; rfl
  generalize premE b ⟨⟨g, s⟩, kd, rk, sr⟩ i = E at *
  rcases hkd with rfl | rfl | rfl
  all_goals (
  go_enter Tryz.func65, Tryz.ntmps65
  go_wp2_with fail
  clear x0 x1 x2 x3 x4 hbl2
  generalize ((w.alloc (.cells #[.slice (some ⟨bb, off, none⟩) b.prems.length c1, .slice a2 b.rules.length c2, .slice a3 b.proms.length c3] 26)).alloc _) = w0 at *
  refine (valid_any g s _ o1).mono ?_
  rintro e w1 ⟨rfl, hb1⟩
  have HB1 := hidIt (HB0.out.trans (hb1.mono HB0.out.size))
  have HV1 := hidIt (HV0.out.below hb1)
  have HK1 := hidIt (blk_kept2 HK0.out hb1)
  have HP1 := hidIt (blk_kept2 HP0.out hb1)
  clear hb1 HB0 HV0 HK0 HP0
  obtain ⟨p0, p1, p2, p3, p4⟩ := bcell5 HP1.out
  obtain ⟨k0, k1, k2⟩ := bcell3 HK1.out
  have lp := lt_of_block HP1.out
  have lk := lt_of_block HK1.out
  cases h1 : vn s
  · go_wp2_with fail
    go_ret
    exact ⟨ret_int (by rw [HE.out, h1]; rfl), HB1.out⟩
  go_wp2_with fail
  refine (rankFits_any rk _ o4 _).mono ?_
  rintro e w2 ⟨rfl, rfl⟩
  cases h2 : rankB rk _
  · go_wp2_with fail
    go_ret
    refine ⟨ret_int ?_, HB1.out⟩
    rw [HE.out, h1]
    simp [h2]
  go_wp2_with fail
  refine (sourceFits_any sr o2 _).mono ?_
  rintro e w2 ⟨rfl, rfl⟩
  have HQ : Hid (∀ y : Bool, srcB sr = y → E = if y = false then 1 else if posI (hasLit ⟨g, s⟩) b.prems < (i : Int) then 5 else 0) := fun y hy => by
    rw [HE.out, h1, hy]
    simp [h2]
  clear HE
  cases h3 : srcB sr
  · go_wp2_with fail
    go_ret
    exact ⟨ret_int (by rw [HQ.out _ h3]; rfl), HB1.out⟩
  have HF := hidIt (HQ.out _ h3)
  clear HQ
  go_wp2_with fail
  refine (bpremise_any b _ ⟨g, s⟩ _ HV1.out).mono ?_
  rintro e w3 ⟨rfl, hb3⟩
  have HB3 := hidIt (HB1.out.trans (hb3.mono HB1.out.size))
  clear hb3 p0 p1 p2 p3 p4 k0 k1 k2 lp lk HV1 HK1 HP1
  generalize posI (hasLit ⟨g, s⟩) b.prems = z at *
  by_cases hz : z < (i : Int)
  · have hF : E = 5 := by rw [HF.out, if_neg (by decide), if_pos hz]
    clear HF
    go_wp2_with fail
    go_ret
    exact ⟨ret_int hF.symm, HB3.out⟩
  · have hF : E = 0 := by rw [HF.out, if_neg (by decide), if_neg hz]
    clear HF
    go_wp2_with fail
    go_ret
    exact ⟨ret_int hF.symm, HB3.out⟩)

end Go.Proofs.YtmhloapjadhifaaGreatDoor

namespace Go.Proofs.YtmhloapjadhifaaGreatDoor
set_option linter.unusedVariables false
set_option linter.unusedSimpArgs false
open Go Go.RowKit

theorem posI_cases {α : Type} (p : α → Bool) (xs : List α) : posI p xs = -1 ∨ ∃ k : Nat, k < xs.length ∧ posI p xs = (k : Int) := by
  unfold posI
  by_cases h : xs.findIdx p < xs.length
  · rw [if_pos h]; exact .inr ⟨_, h, rfl⟩
  · rw [if_neg h]; exact .inl rfl

/-- What is wrong with a promotion: 1 out of range, 6 no such rule, 4 the rule is strict. -/
def strictAt (b : Bs) (z : Int) : Bool := (b.rules[z.toNat]?).any fun r => r.strict
def promE (b : Bs) (p : Pr) : Int := if (rankB p.rank true && vn p.lit.name) = false then 1 else if posI (hasName p.rule) b.rules < 0 then 6 else if strictAt b (posI (hasName p.rule) b.rules) = true then 4 else 0

set_option maxHeartbeats 2000000 in
theorem valProm_any (b : Bs) (v : Value) (p : Pr) (hp : PrOk p) (w : World) (hv : BaseAt w v b) :
    Calls Tryz.prog 67 #[v, .agg #[.string p.rule, .int .i64 p.rank, .bool p.lit.neg, .string p.lit.name]] w fun e w' => e = .returned (.int .i64 (promE b p)) ∧ Below w.heap.size w w' := by
  have HVW := hidIt hv
  obtain ⟨a1, a2, a3, c1, c2, c3, rfl, -, -, hlen, hcap, -, -, -, hr, -⟩ := hv.form
  obtain ⟨rl, rk, ⟨g, s⟩⟩ := p
  obtain ⟨o1, o2, o3⟩ := hp
  simp only at o1 o2 o3 ⊢
  have hl1 : b.rules.length ≤ 9223372036854775807 := by unfold maxLen at hcap; omega
  have hg2 := bgrow2 w (.cells #[.slice a1 b.prems.length c1, .slice a2 b.rules.length c2, .slice a3 b.proms.length c3] 26) (.cells #[.string rl, .int .i64 rk, .bool g, .string s] 68)
  have HB0 := hidIt hg2
  have HV0 := hidIt (HVW.out.below hg2)
  have HK0 := hidIt (blk_kept2 (heap_alloc_new w (.cells #[.slice a1 b.prems.length c1, .slice a2 b.rules.length c2, .slice a3 b.proms.length c3] 26)) (bgrow _ (.cells #[.string rl, .int .i64 rk, .bool g, .string s] 68)))
  have HP0 := hidIt (heap_alloc_new (w.alloc (.cells #[.slice a1 b.prems.length c1, .slice a2 b.rules.length c2, .slice a3 b.proms.length c3] 26)) (.cells #[.string rl, .int .i64 rk, .bool g, .string s] 68))
  rw [size_alloc] at HP0
  have HR0 := hidIt (hr.below hg2)
  have HE : Hid (promE b ⟨rl, rk, ⟨g, s⟩⟩ = if (rankB rk true && vn s) = false then 1 else if posI (hasName rl) b.rules < 0 then 6 else if strictAt b (posI (hasName rl) b.rules) = true then 4 else 0) := by show _ = _; rfl
  generalize promE b ⟨rl, rk, ⟨g, s⟩⟩ = E at *
  clear hv hr hg2 HVW
  go_enter Tryz.func67, Tryz.ntmps67
  go_wp2_with fail
  generalize ((w.alloc (.cells #[.slice a1 b.prems.length c1, .slice a2 b.rules.length c2, .slice a3 b.proms.length c3] 26)).alloc _) = w0 at *
  refine (rankFits_any rk _ o2 _).mono ?_
  rintro e w1 ⟨rfl, rfl⟩
  obtain ⟨p0, p1, p2, p3⟩ := bcell4 HP0.out
  obtain ⟨k0, k1, k2⟩ := bcell3 HK0.out
  have lp := lt_of_block HP0.out
  have lk := lt_of_block HK0.out
  cases h1 : rankB rk true
  · go_wp2_with fail
    go_ret
    exact ⟨ret_int (by rw [HE.out, h1]; rfl), HB0.out⟩
  go_wp2_with fail
  refine (valid_any g s _ o3).mono ?_
  rintro e w1 ⟨rfl, hb1⟩
  have HB1 := hidIt (HB0.out.trans (hb1.mono HB0.out.size))
  have HV1 := hidIt (HV0.out.below hb1)
  have HR1 := hidIt (HR0.out.below hb1)
  have HK1 := hidIt (blk_kept2 HK0.out hb1)
  have HP1 := hidIt (blk_kept2 HP0.out hb1)
  clear hb1 HB0 HV0 HK0 HP0 HR0 p0 p1 p2 p3 k0 k1 k2 lp lk
  obtain ⟨p0, p1, p2, p3⟩ := bcell4 HP1.out
  obtain ⟨k0, k1, k2⟩ := bcell3 HK1.out
  have lp := lt_of_block HP1.out
  have lk := lt_of_block HK1.out
  cases h2 : vn s
  · go_wp2_with fail
    go_ret
    exact ⟨ret_int (by rw [HE.out, h1, h2]; rfl), HB1.out⟩
  have HF : Hid (E = if posI (hasName rl) b.rules < 0 then 6 else if strictAt b (posI (hasName rl) b.rules) = true then 4 else 0) := by show _ = _; rw [HE.out, h1, h2]; rfl
  clear HE
  go_wp2_with fail
  refine (bfind_any b _ rl _ HV1.out).mono ?_
  rintro e w2 ⟨rfl, hb2⟩
  have HB2 := hidIt (HB1.out.trans (hb2.mono HB1.out.size))
  have HR2 := hidIt (HR1.out.below hb2)
  have HK2 := hidIt (blk_kept2 HK1.out hb2)
  clear hb2 HB1 HV1 HK1 HP1 HR1 p0 p1 p2 p3 k0 k1 k2 lp lk
  obtain ⟨k0, k1, k2⟩ := bcell3 HK2.out
  have lk := lt_of_block HK2.out
  rcases posI_cases (hasName rl) b.rules with hz | ⟨k, hk, hz⟩
  · rw [hz] at HF ⊢
    have hF : E = 6 := by rw [HF.out]; rfl
    clear HF
    go_wp2_with fail
    go_ret
    exact ⟨ret_int hF.symm, HB2.out⟩
  · rw [hz] at HF ⊢
    have hkI : (k : Int) < (b.rules.length : Int) := by omega
    have hk0 : (0 : Int) ≤ (k : Int) := by omega
    have hkn : ¬ (k : Int) < 0 := by omega
    obtain ⟨a2', c2', e2, -, -, hrow⟩ := RowIn.form HR2.out
    injection e2 with e2 e3 e4
    subst e2 e4
    obtain ⟨bb, off, rfl, hbl, bv, d0, d1, d2, d3, d4, d5, -⟩ := hrow k hk
    have HS : Hid (strictAt b (k : Int) = b.rules[k].strict) := by show _ = _; unfold strictAt; rw [Int.toNat_natCast, List.getElem?_eq_getElem hk]; rfl
    clear hrow d0 d2 d3 d4 d5
    cases h3 : b.rules[k].strict
    · have hF : E = 0 := by rw [HF.out, if_neg hkn, HS.out, h3]; rfl
      rw [h3] at d1
      clear HF
      go_wp2_with fail
      go_ret
      exact ⟨ret_int hF.symm, HB2.out⟩
    · have hF : E = 4 := by rw [HF.out, if_neg hkn, HS.out, h3]; rfl
      rw [h3] at d1
      clear HF
      go_wp2_with fail
      go_ret
      exact ⟨ret_int hF.symm, HB2.out⟩

end Go.Proofs.YtmhloapjadhifaaGreatDoor

namespace Go.Proofs.YtmhloapjadhifaaGreatDoor
set_option linter.unusedVariables false
set_option linter.unusedSimpArgs false
open Go Go.RowKit

theorem BodyAt.form {w : World} {v : Value} {xs : List Lt} (h : BodyAt w v xs) :
    ∃ (a : Option Addr) (cap : Nat), v = .slice a xs.length cap ∧ xs.length ≤ cap ∧ cap ≤ maxLen ∧ ∀ i (h : i < xs.length), ∃ b off : Nat, a = some ⟨b, off, none⟩ ∧ b < w.heap.size ∧ w.cell? ⟨b, off + i * 2, none⟩ = some (.bool (xs[i]).neg) ∧ w.cell? ⟨b, off + i * 2 + 1, none⟩ = some (.string (xs[i]).name) := by
  rcases h with ⟨h1, h2⟩ | ⟨b, off, cap, h1, h2, h3, h4, h5⟩
  · subst h2
    exact ⟨none, 0, h1, by simp, by unfold maxLen; omega, fun i hi => absurd hi (by simp)⟩
  · exact ⟨_, cap, h1, h2, h3, fun i hi => ⟨b, off, rfl, h4, h5 i hi⟩⟩

def badL (x : Lt) : Bool := !vn x.name

set_option maxHeartbeats 1000000 in
theorem idxLit_any (xs : List Lt) (hs : ∀ x ∈ xs, x.name.size ≤ maxLen) (v : Value) (w : World) (hv : BodyAt w v xs) :
    Calls Tryz.prog 160 #[v, .func (Fn.func 122) #[] #[]] w fun e w' => e = .returned (.int .i64 (posI badL xs)) ∧ Below w.heap.size w w' := by
  obtain ⟨a, cap, rfl, hlen, hcap, hrow⟩ := hv.form
  have HR := hidIt hrow
  have HS := hidIt hs
  have hl1 : xs.length ≤ 9223372036854775807 := by unfold maxLen at hcap; omega
  clear hrow hv hs
  go_enter Tryz.func160, Tryz.ntmps160
  go_wp2_with fail
  go_loopw [5, 8] (fun _ i wr => ∃ k : Nat, k ≤ xs.length ∧ i = .int .i64 k ∧ Hid (Below w.heap.size w wr) ∧ Hid (∀ j (hj : j < xs.length), j < k → badL xs[j] = false)) (fun _ i _ => xs.length - (intOf i).toNat)
  case atStart => exact ⟨0, Nat.zero_le _, rfl, Below.refl _ _, fun j hj h => absurd h (by omega)⟩
  case round =>
    obtain ⟨k, hk, rfl, HB, HF⟩ := hrel
    by_cases hlt : k < xs.length
    · have hkr := hlt
      obtain ⟨b, off, rfl, hbl, c0, c1⟩ := HR.out k hkr
      have hltI : (k : Int) < (xs.length : Int) := by omega
      have hk0 : (0 : Int) ≤ (k : Int) := by omega
      have d0 := (HB.out.cell (p := ⟨b, off + k * 2, none⟩) hbl).trans c0
      have d1 := (HB.out.cell (p := ⟨b, off + k * 2 + 1, none⟩) hbl).trans c1
      have hbl2 := Nat.lt_of_lt_of_le hbl HB.out.size
      clear c0 c1
      go_wp2_with fail
      refine (notValid_any xs[k].neg xs[k].name (HS.out _ (List.getElem_mem hkr)) wr).mono ?_
      rintro e w1 ⟨rfl, hb1⟩
      have HB1 := hidIt (HB.out.trans (hb1.mono HB.out.size))
      clear hb1 d0 d1
      have HP : Hid (badL xs[k] = !vn xs[k].name) := by show _ = _; rfl
      cases hp : vn xs[k].name
      · go_wp2_with fail
        go_ret
        refine ⟨?_, HB1.out⟩
        rw [posI_at (p := badL) hkr (by rw [HP.out, hp]; rfl) (fun j hj => HF.out j (by omega) hj)]
        rfl
      · go_wp2_with fail
        go_roundw
        case rel =>
          refine ⟨k + 1, by omega, by go_num, HB1, fun j hj hjk => ?_⟩
          by_cases hjj : j < k
          · exact HF.out j hj hjj
          · obtain rfl : j = k := by omega
            rw [HP.out, hp]; rfl
        case measure => simp [intOf]; omega
    · obtain rfl : k = xs.length := by omega
      go_wp2_with fail
      go_ret
      refine ⟨?_, HB.out⟩
      rw [posI_no (p := badL) (fun j hj => HF.out j hj hj)]
      rfl

theorem posI_any {α : Type} (p : α → Bool) (xs : List α) : (decide (0 ≤ posI p xs)) = xs.any p := by
  unfold posI
  cases h : xs.any p
  · rw [List.any_eq_false] at h
    have e : xs.findIdx p = xs.length := by
      rw [List.findIdx_eq_length]
      intro x hx
      simpa using h x hx
    rw [e, if_neg (Nat.lt_irrefl _)]
    rfl
  · rw [List.any_eq_true] at h
    obtain ⟨x, hx, hp⟩ := h
    rw [if_pos (List.findIdx_lt_length.2 ⟨x, hx, hp⟩), decide_eq_true (by omega)]

theorem anyLit_any (xs : List Lt) (hs : ∀ x ∈ xs, x.name.size ≤ maxLen) (v : Value) (w : World) (hv : BodyAt w v xs) :
    Calls Tryz.prog 121 #[v, .func (Fn.func 122) #[] #[]] w fun e w' => e = .returned (.bool (xs.any badL)) ∧ Below w.heap.size w w' := by
  have HV := hidIt hv
  obtain ⟨a, cap, rfl, -⟩ := hv.form
  clear hv
  go_enter Tryz.func121, Tryz.ntmps121
  go_wp2_with fail
  refine (idxLit_any xs hs _ w HV.out).mono ?_
  rintro e w1 ⟨rfl, hb1⟩
  have HB1 := hidIt hb1
  have HA := hidIt (posI_any badL xs)
  clear hb1
  go_wp2_with fail
  go_ret
  exact ⟨ret_bool HA.out, HB1.out⟩

set_option maxHeartbeats 1000000 in
theorem eqLits_any (xs ys : List Lt) (v u : Value) (w : World) (hv : BodyAt w v xs) (hu : BodyAt w u ys) :
    Calls Tryz.prog 123 #[v, u] w fun e w' => e = .returned (.bool (decide (xs = ys))) ∧ Below w.heap.size w w' := by
  obtain ⟨a, cap, rfl, hlen, hcap, hrow⟩ := hv.form
  obtain ⟨a2, cap2, rfl, hlen2, hcap2, hrow2⟩ := hu.form
  have HR := hidIt hrow
  have HR2 := hidIt hrow2
  have hl1 : xs.length ≤ 9223372036854775807 := by unfold maxLen at hcap; omega
  have hl2 : ys.length ≤ 9223372036854775807 := by unfold maxLen at hcap2; omega
  clear hrow hv hrow2 hu
  by_cases hL : xs.length = ys.length
  case neg =>
    have hne : (((xs.length : Nat) : Int) != ((ys.length : Nat) : Int)) = true := by rw [bne_iff_ne]; omega
    have HD : Hid (decide (xs = ys) = false) := decide_eq_false (fun h => hL (by rw [h]))
    clear hL
    go_enter Tryz.func123, Tryz.ntmps123
    go_wp2_with fail
    all_goals first | (go_ret; exact ⟨ret_bool HD.out.symm, Below.refl _ _⟩) | (exfalso; simp_all)
  case pos =>
  have hqq : (((xs.length : Nat) : Int) != ((ys.length : Nat) : Int)) = false := by rw [bne_eq_false_iff_eq]; omega
  have HL := hidIt hL
  clear hL
  go_enter Tryz.func123, Tryz.ntmps123
  go_wp2_with fail
  go_loopw [5, 13] (fun _ i wr => ∃ k : Nat, k ≤ xs.length ∧ i = .int .i64 k ∧ Hid (Below w.heap.size w wr) ∧ Hid (∀ j (hj : j < xs.length) (hj2 : j < ys.length), j < k → xs[j] = ys[j])) (fun _ i _ => xs.length - (intOf i).toNat)
  case atStart => exact ⟨0, Nat.zero_le _, rfl, Below.refl _ _, fun j hj hj2 h => absurd h (by omega)⟩
  case round =>
    obtain ⟨k, hk, rfl, HB, HF⟩ := hrel
    by_cases hlt : k < xs.length
    · have hkr := hlt
      have hkr2 : k < ys.length := by rw [← HL.out]; exact hlt
      obtain ⟨b, off, rfl, hbl, c0, c1⟩ := HR.out k hkr
      obtain ⟨b2, off2, rfl, hbl2, c2, c3⟩ := HR2.out k hkr2
      have hltI : (k : Int) < (xs.length : Int) := by omega
      have hltI2 : (k : Int) < (ys.length : Int) := by omega
      have hk0 : (0 : Int) ≤ (k : Int) := by omega
      have d0 := (HB.out.cell (p := ⟨b, off + k * 2, none⟩) hbl).trans c0
      have d1 := (HB.out.cell (p := ⟨b, off + k * 2 + 1, none⟩) hbl).trans c1
      have d2 := (HB.out.cell (p := ⟨b2, off2 + k * 2, none⟩) hbl2).trans c2
      have d3 := (HB.out.cell (p := ⟨b2, off2 + k * 2 + 1, none⟩) hbl2).trans c3
      have hm1 := Nat.lt_of_lt_of_le hbl HB.out.size
      have hm2 := Nat.lt_of_lt_of_le hbl2 HB.out.size
      clear c0 c1 c2 c3 hbl hbl2
      have HX : Hid (xs[k] = ⟨xs[k].neg, xs[k].name⟩) := by show _ = _; rfl
      have hgd := fun (op : BinOp) (a b' : Operand) (w : World) => gdL op a b' xs[k].neg ys[k].neg xs[k].name ys[k].name w
      by_cases he : xs[k] = ys[k]
      · have hq : ∀ w, (Op.equalIn 10000 28 (.agg #[.bool xs[k].neg, .string xs[k].name]) (.agg #[.bool ys[k].neg, .string ys[k].name])).run Tryz.prog w = .ok true w := fun w => by rw [eqFieldsL, decide_eq_true]; exact he
        have HE := hidIt he
        clear he
        go_wp2_with fail
        go_quiet (fail)
        go_wp2_with fail
        go_roundw
        case rel =>
          refine ⟨k + 1, by omega, by go_num, ⟨HB.out.os, HB.out.tape, HB.out.output, HB.out.size, HB.out.block⟩, fun j hj hj2 hjk => ?_⟩
          by_cases hjj : j < k
          · exact HF.out j hj hj2 hjj
          · obtain rfl : j = k := by omega
            exact HE.out
        case measure => simp [intOf]; omega
      · have hq : ∀ w, (Op.equalIn 10000 28 (.agg #[.bool xs[k].neg, .string xs[k].name]) (.agg #[.bool ys[k].neg, .string ys[k].name])).run Tryz.prog w = .ok false w := fun w => by rw [eqFieldsL, decide_eq_false]; exact he
        have HE := hidIt he
        clear he
        go_wp2_with fail
        go_quiet (fail)
        go_wp2_with fail
        go_ret
        refine ⟨ret_bool ?_, ⟨HB.out.os, HB.out.tape, HB.out.output, HB.out.size, HB.out.block⟩⟩
        rw [decide_eq_false]
        intro h
        apply HE.out
        subst h
        rfl
    · obtain rfl : k = xs.length := by omega
      go_wp2_with fail
      go_ret
      refine ⟨ret_bool ?_, HB.out⟩
      rw [decide_eq_true]
      exact List.ext_getElem HL.out fun j hj hj2 => HF.out j hj hj2 hj

end Go.Proofs.YtmhloapjadhifaaGreatDoor

namespace Go.Proofs.YtmhloapjadhifaaGreatDoor
set_option linter.unusedVariables false
set_option linter.unusedSimpArgs false
open Go.RowKit Go.Sort

/-- The value is a list of literals that reads as xs. -/
def LitsAt (w : World) (v : Value) (xs : List Lt) : Prop :=
  (v = .slice none 0 0 ∧ xs = []) ∨
  ∃ (b off cap : Nat), v = .slice (some ⟨b, off, none⟩) xs.length cap ∧ xs.length ≤ cap ∧ cap ≤ maxLen ∧ b < w.heap.size ∧
    ∀ i, i < xs.length → w.cell? ⟨b, off + i * 2, none⟩ = some (.bool (xs[i]!).neg) ∧ w.cell? ⟨b, off + i * 2 + 1, none⟩ = some (.string (xs[i]!).name)

/-- .. and lies in a block that may be written whole, from block B on. -/
def OwnLits (w : World) (B : Nat) (v : Value) (xs : List Lt) : Prop :=
  (v = .slice none 0 0 ∧ xs = []) ∨
  ∃ (b cap : Nat), v = .slice (some ⟨b, 0, none⟩) xs.length cap ∧ xs.length ≤ cap ∧ cap ≤ maxLen ∧ B ≤ b ∧ b < w.heap.size ∧ HoldsK encL 2 w b 0 xs.toArray

theorem OwnLits.lits {w : World} {B : Nat} {v : Value} {xs : List Lt} (h : OwnLits w B v xs) : LitsAt w v xs := by
  rcases h with h | ⟨b, cap, h1, h2, h3, h4, h5, h6⟩
  · exact .inl h
  · refine .inr ⟨b, 0, cap, h1, h2, h3, h5, fun i hi => ?_⟩
    have := HoldsK.at0 h6 (show i < xs.toArray.size by simpa using hi)
    simp only [List.getElem!_toArray] at this
    exact ⟨this.1.1, this.2.1⟩

theorem LitsAt.kept {w w' : World} {v : Value} {xs : List Lt} (h : LitsAt w v xs) {row : Option Nat} (hg : w.grownBy w' row) (hr : ∀ g, row = some g → ∀ b off cap, v = .slice (some ⟨b, off, none⟩) xs.length cap → b ≠ g) : LitsAt w' v xs := by
  rcases h with h | ⟨b, off, cap, h1, h2, h3, h4, h5⟩
  · exact .inl h
  · have hb : w'.heap[b]? = w.heap[b]? := hg.block b h4 (fun e => hr b e.symm b off cap h1 rfl)
    refine .inr ⟨b, off, cap, h1, h2, h3, Nat.lt_of_lt_of_le h4 hg.size, fun i hi => ?_⟩
    rw [World.cell?_of_block (w := w) (w' := w') (a := ⟨b, off + i * 2, none⟩) hb, World.cell?_of_block (w := w) (w' := w') (a := ⟨b, off + i * 2 + 1, none⟩) hb]
    exact h5 i hi
theorem LitsAt.grow {w w' : World} {v : Value} {xs : List Lt} (h : LitsAt w v xs) (hg : w.grownBy w' none) : LitsAt w' v xs := h.kept hg (fun g e => by cases e)
theorem LitsAt.below {w w' : World} {v : Value} {xs : List Lt} (h : LitsAt w v xs) (hb : Below w.heap.size w w') : LitsAt w' v xs := h.grow (only_of_below hb none)

theorem holds_block {w w' : World} {b : Nat} {d : Array Lt} (h : HoldsK encL 2 w b 0 d) (hb : w'.heap[b]? = w.heap[b]?) : HoldsK encL 2 w' b 0 d := fun j hj => by
  rw [World.cell?_of_block (w := w) (w' := w') (a := ⟨b, 0 + j, none⟩) hb, World.frozen?_of_block (w := w) (w' := w') (a := ⟨b, 0 + j, none⟩) hb]
  exact h j hj
theorem OwnLits.kept {w w' : World} {B : Nat} {v : Value} {xs : List Lt} (h : OwnLits w B v xs) {row : Option Nat} (hg : w.grownBy w' row) (hr : ∀ g, row = some g → ∀ b cap, v = .slice (some ⟨b, 0, none⟩) xs.length cap → b ≠ g) : OwnLits w' B v xs := by
  rcases h with h | ⟨b, cap, h1, h2, h3, h4, h5, h6⟩
  · exact .inl h
  · have hb : w'.heap[b]? = w.heap[b]? := hg.block b h5 (fun e => hr b e.symm b cap h1 rfl)
    exact .inr ⟨b, cap, h1, h2, h3, h4, Nat.lt_of_lt_of_le h5 hg.size, holds_block h6 hb⟩
theorem OwnLits.below {w w' : World} {B : Nat} {v : Value} {xs : List Lt} (h : OwnLits w B v xs) (hb : Below w.heap.size w w') : OwnLits w' B v xs := h.kept (only_of_below hb none) (fun g e => by cases e)
theorem OwnLits.mono {w : World} {B B' : Nat} {v : Value} {xs : List Lt} (h : OwnLits w B v xs) (hB : B' ≤ B) : OwnLits w B' v xs := by
  rcases h with h | ⟨b, cap, h1, h2, h3, h4, h5, h6⟩
  · exact .inl h
  · exact .inr ⟨b, cap, h1, h2, h3, Nat.le_trans hB h4, h5, h6⟩

/-- The flat cells of a list. -/
def flatL (xs : List Lt) : List Value := (flatK encL 2 xs.toArray).toList
theorem flatL_len (xs : List Lt) : (flatL xs).length = xs.length * 2 := by simp [flatL]
theorem flatL_get (xs : List Lt) (j : Nat) (h : j < xs.length * 2) : (flatL xs)[j]? = some ((encL xs[j / 2]!)[j % 2]!) := by
  have := get_flatK encL 2 xs.toArray j (by simpa using h)
  simp only [List.getElem!_toArray] at this
  rw [flatL, Array.getElem?_toList, ← this]
  rw [getElem!_pos _ _ (by simpa using h), Array.getElem?_eq_getElem]

theorem LitsAt.cells {w : World} {b off : Nat} {xs : List Lt} (h : ∀ i, i < xs.length → w.cell? ⟨b, off + i * 2, none⟩ = some (.bool (xs[i]!).neg) ∧ w.cell? ⟨b, off + i * 2 + 1, none⟩ = some (.string (xs[i]!).name)) :
    ∀ j u, (flatL xs)[j]? = some u → w.cell? ⟨b, off + j, none⟩ = some u := by
  intro j u hu
  have hj : j < xs.length * 2 := by
    have := (List.getElem?_eq_some_iff.1 hu).1
    rwa [flatL_len] at this
  rw [flatL_get xs j hj] at hu
  have hi := h (j / 2) (by omega)
  rcases Nat.mod_two_eq_zero_or_one j with e | e
  · rw [e, encL_get0] at hu
    rw [show off + j = off + j / 2 * 2 by omega, hi.1]
    exact hu
  · rw [e, encL_get1] at hu
    rw [show off + j = off + j / 2 * 2 + 1 by omega, hi.2]
    exact hu

theorem flatL_one (xs : List Lt) : ∀ u ∈ flatL xs, u.oneCell' = true := by
  intro u hu
  obtain ⟨j, hj, rfl⟩ := List.getElem_of_mem hu
  have hj' : j < xs.length * 2 := by rwa [flatL_len] at hj
  have := flatL_get xs j hj'
  rw [List.getElem?_eq_getElem hj] at this
  injection this with this
  rw [this]
  rcases Nat.mod_two_eq_zero_or_one j with e | e <;> rw [e] <;> rfl

/-- A row that the call owns holds its list. -/
theorem holds_of_owns {w : World} {base : Nat} {v : Value} {xs : List Lt} (h : w.ownsRow base 28 2 v xs.length (flatL xs)) (hn : v ≠ .slice none 0 0) : OwnLits w base v xs := by
  obtain ⟨_, h | ⟨g, cap, cur, h1, h2, h3, h4, h5, h6, h7⟩⟩ := h
  · exact absurd h.1 hn
  · refine .inr ⟨g, cap, h1, h4, h5, h2, lt_of_block h3, fun j hj => ?_⟩
    have hj' : j < xs.length * 2 := by simpa using hj
    have hc : (flatL xs)[j]? = some (flatK encL 2 xs.toArray)[j]! := by
      rw [flatL, Array.getElem?_toList, Array.getElem?_eq_getElem (by simpa using hj'), getElem!_pos _ _ (by simpa using hj')]
    have hcur : cur[j]? = some (flatK encL 2 xs.toArray)[j]! := by
      rw [← hc, ← h7, List.getElem?_take, if_pos hj', Array.getElem?_toList]
    refine ⟨?_, ?_⟩
    · simp [World.cell?, h3, hcur]
    · simp [World.frozen?, h3]
end Go.Proofs.YtmhloapjadhifaaGreatDoor

namespace Go.Proofs.YtmhloapjadhifaaGreatDoor
set_option linter.unusedVariables false
set_option linter.unusedSimpArgs false
open Go.RowKit Go.Sort

theorem cmpLays (blk off size : Nat) (w : World) : CmpLays Tryz.prog 145 #[] encL 2 cmpI blk off size w :=
  fun _ _ _ _ x y => (compare_any x y _).mono fun _ _ ⟨he, os, hw⟩ => ⟨he, 0, os, hw⟩

theorem aggL (w : World) : (isAgg 28).run Tryz.prog w = .ok true w := Tryz.isAgg28 w
theorem sizeL (w : World) : (Go.sizeOf 28).run Tryz.prog w = .ok 2 w := Tryz.sizeOf28 w

/-- The list sorted. -/
def srt (xs : List Lt) : List Lt := xs.mergeSort fun x y => !(ltOf cmpI) y x

/-- slices.SortFunc at a row of literals. -/
theorem sort_any (blk off cap : Nat) (xs : List Lt) (w : World) (hH : HoldsK encL 2 w blk off xs.toArray) (hblk : blk < w.heap.size) (hsz : xs.length < 4611686018427387904) :
    Calls Tryz.prog 144 #[.slice (some ⟨blk, off, none⟩) xs.length cap, .func (.func 145) #[] #[]] w fun e w' => e = .returned (.tuple #[]) ∧ ∃ n os, w' = sortWorldK encL 2 w blk off n (srt xs).toArray os := by
  have eg : ∀ args w, (callFunc 145 args).run Tryz.prog w = .ok (.enter 145 args) w := enters_of Tryz.func145 (by kernel_rfl) rfl
  have h := AnyQ.slices_SortFunc_total Tryz.sortL 2 aggL sizeL encL encL_len encL_one cmpI swo 145 #[] blk off cap xs.toArray w eg (cmpLays blk off _ w) hH hblk (by simpa using hsz) lt_total
  have e : xs.toArray.size = xs.length := by simp
  rw [e] at h
  exact h

theorem sort_nil (w : World) : Calls Tryz.prog 144 #[.slice none 0 0, .func (.func 145) #[] #[]] w fun e w' => e = .returned (.tuple #[]) ∧ w' = w :=
  AnyF.slices_SortFunc_none Tryz.sortL none 0 _ w

theorem infoL : (Tryz.prog.info? 28).map (fun i => (i.zero, i.size, i.bytes)) = some (some (.agg #[.bool false, .string ⟨#[]⟩]), 2, 24) := by kernel_rfl

/-- slices.Clone at a list of literals. -/
theorem clone_some (b off cap : Nat) (xs : List Lt) (w : World) (hn : xs.length ≤ 1000000)
    (h : ∀ i, i < xs.length → w.cell? ⟨b, off + i * 2, none⟩ = some (.bool (xs[i]!).neg) ∧ w.cell? ⟨b, off + i * 2 + 1, none⟩ = some (.string (xs[i]!).name)) :
    Calls Tryz.prog 92 #[.slice (some ⟨b, off, none⟩) xs.length cap] w fun e w' => ∃ v', e = .returned v' ∧ OwnLits w' w.heap.size v' xs ∧ v' ≠ .slice none 0 0 ∧ Below w.heap.size w w' := by
  obtain ⟨i0, hi, hz0, hz1, hz2⟩ := info_parts infoL
  have hc := AnyE.slices_Clone Tryz.cloneL i0 _ 2 24 hi hz0 hz1 hz2 rfl (by omega) sizeL b off xs.length cap (flatL xs) w (flatL_len xs) (by unfold maxLen; omega) (by omega) (LitsAt.cells h) (flatL_one xs)
  exact hc.mono fun e w' ⟨v', he, ho, hn, hb⟩ => ⟨v', he, holds_of_owns ho hn, hn, hb⟩

theorem clone_nil (w : World) : Calls Tryz.prog 92 #[.slice none 0 0] w fun e w' => e = .returned (.slice none 0 0) ∧ w = w' := by
  have q22 : ∀ (w : World) (a : Option Addr) (n c n' c' : Nat), (binOp .eql 58 (.slice a n c) (.slice none n' c')).run Tryz.prog w = .ok (.bool a.isNone) w := fun w a n c n' c' => Lib.run_eql_slice_nil w _ _ a n c n' c' Tryz.underlying58
  go_enter Tryz.func92, Tryz.ntmps92
  go_wp2
  go_ret
  exact ⟨rfl, rfl⟩

theorem compact_nil (w : World) : Calls Tryz.prog 146 #[.slice none 0 0] w fun e w' => e = .returned (.slice none 0 0) ∧ w = w' := by
  go_enter Tryz.func146, Tryz.ntmps146
  go_wp2
  go_ret
  exact ⟨rfl, rfl⟩

/-- The list in ascending order, each once. -/
def nrm (xs : List Lt) : List Lt := cpt (srt xs).toArray

theorem srt_pair (xs : List Lt) : (srt xs).Pairwise fun a b => (!ltOf cmpI b a) = true :=
  List.pairwise_mergeSort (fun a b c h k => by
    simp only [Bool.not_eq_true'] at *
    exact swo.ntrans c b a k h) (fun a b => by
    cases h : ltOf cmpI b a
    · simp
    · have : ltOf cmpI a b = false := by
        cases k : ltOf cmpI a b
        · rfl
        · have := swo.trans a b a k h
          rw [swo.irrefl] at this
          cases this
      simp [this]) xs

theorem srt_eq {l xs : List Lt} (h : l.Perm xs) (hs : l.Pairwise fun a b => (!ltOf cmpI b a) = true) : srt xs = l :=
  List.Perm.eq_of_pairwise (le := fun a b => (!ltOf cmpI b a) = true) (fun a b _ _ h1 h2 => by
    simp only [Bool.not_eq_true'] at h1 h2
    exact lt_total a b h2 h1) (srt_pair xs) hs ((List.mergeSort_perm _ _).trans h.symm)

theorem srt_len (xs : List Lt) : (srt xs).length = xs.length := (List.mergeSort_perm _ _).length_eq

theorem below_put {a w : World} {B b off : Nat} {d : Array Lt} (h : Below B a w) (hb : B ≤ b) : Below B a (putRowK encL 2 w b off d) :=
  h.trans ⟨rfl, rfl, rfl, by simp [putRowK], fun k hk => by
    show (w.heap.modify b _)[k]? = _
    rw [Array.getElem?_modify, if_neg (by omega)]⟩
theorem below_grown {a w : World} {B : Nat} (h : Below B a w) (hB : B ≤ w.heap.size) (os : Array Obj) : Below B a (Sort.grow w os) := h.trans ((below_grow w os).mono hB)
theorem below_ahead {a w : World} {B : Nat} (h : Below B a w) (n : Nat) : Below B a (Sort.ahead w n) := ⟨h.os, h.tape, h.output, h.size, h.block⟩

theorem clone_clean (b off cap : Nat) (xs : List Lt) (w : World) (hn : xs.length ≤ 1000000)
    (h : ∀ i, i < xs.length → w.cell? ⟨b, off + i * 2, none⟩ = some (.bool (xs[i]!).neg) ∧ w.cell? ⟨b, off + i * 2 + 1, none⟩ = some (.string (xs[i]!).name)) :
    Calls Tryz.prog 92 #[.slice (some ⟨b, off, none⟩) xs.length cap] w fun e w' => ∃ g cap' : Nat, e = .returned (.slice (some ⟨g, 0, none⟩) xs.length cap') ∧ xs.length ≤ cap' ∧ cap' ≤ maxLen ∧ w.heap.size ≤ g ∧ g < w'.heap.size ∧ HoldsK encL 2 w' g 0 xs.toArray ∧ Below w.heap.size w w' :=
  (clone_some b off cap xs w hn h).mono fun e w' ⟨v', he, ho, hnn, hb⟩ => by
    rcases ho with h0 | ⟨g, cap', h1, h2, h3, h4, h5, h6⟩
    · exact absurd h0.1 hnn
    · exact ⟨g, cap', by rw [he, h1], h2, h3, h4, h5, h6, hb⟩

theorem sort_clean (B blk off cap : Nat) (xs : List Lt) (w : World) (hH : HoldsK encL 2 w blk off xs.toArray) (hB : B ≤ blk) (hblk : blk < w.heap.size) (hsz : xs.length < 4611686018427387904) :
    Calls Tryz.prog 144 #[.slice (some ⟨blk, off, none⟩) xs.length cap, .func (.func 145) #[] #[]] w fun e w' => e = .returned (.tuple #[]) ∧ HoldsK encL 2 w' blk off (srt xs).toArray ∧ Below B w w' ∧ blk < w'.heap.size :=
  (sort_any blk off cap xs w hH hblk hsz).mono fun e w' ⟨he, n, os, hw⟩ => by
    subst hw
    have hs : (srt xs).toArray.size = xs.toArray.size := by simp [srt_len]
    have hp := holdsK_putRowK encL 2 (Sort.ahead w n) blk off xs.toArray (srt xs).toArray (holdsK_ahead encL 2 w n blk off _ hH) hs
    have hlt : blk < (putRowK encL 2 (Sort.ahead w n) blk off (srt xs).toArray).heap.size := by simpa [putRowK] using hblk
    have hb : Below B w (putRowK encL 2 (Sort.ahead w n) blk off (srt xs).toArray) := below_put (below_ahead (Below.refl B w) n) hB
    refine ⟨he, holdsK_grow encL 2 _ os blk off _ hlt hp, below_grown hb (by omega) os, ?_⟩
    have := (below_grow (putRowK encL 2 (Sort.ahead w n) blk off (srt xs).toArray) os).size
    exact Nat.lt_of_lt_of_le hlt this

theorem cptRow_size (d : Array Lt) : (cpt d).length ≤ d.size ∧ (cptRow d).size = d.size := by
  have h : (cpt d).length ≤ d.size := by
    unfold cpt Lib.compactUpTo
    rw [List.length_map]
    have := List.length_filter_le (Lib.keeps d) (List.range d.size)
    rwa [List.length_range] at this
  refine ⟨h, ?_⟩
  rw [cptRow]
  simp
  omega

/-- A shorter row that is a beginning of a row that lies. -/
theorem holds_prefix {w : World} {b off : Nat} {d d' : Array Lt} (h : HoldsK encL 2 w b off d) (hs : d'.size ≤ d.size) (hg : ∀ i, i < d'.size → d'[i]! = d[i]!) : HoldsK encL 2 w b off d' := fun j hj => by
  have hj' : j < d'.size * 2 := by simpa using hj
  have h1 := h j (by rw [size_flatK]; omega)
  rw [get_flatK _ _ _ _ (by omega)] at h1
  rw [get_flatK _ _ _ _ hj', hg (j / 2) (by omega)]
  exact h1

theorem compact_clean (B blk off cap : Nat) (d : Array Lt) (w : World) (hH : HoldsK encL 2 w blk off d) (hsz : d.size ≤ 9223372036854775807) (hcap : d.size ≤ cap) (hB : B ≤ blk) (hblk : blk < w.heap.size) :
    Calls Tryz.prog 146 #[.slice (some ⟨blk, off, none⟩) d.size cap] w fun e w' => e = .returned (.slice (some ⟨blk, off, none⟩) (cpt d).length cap) ∧ HoldsK encL 2 w' blk off (cpt d).toArray ∧ Below B w w' ∧ blk < w'.heap.size :=
  (compact_any blk off cap d w hH hsz hcap).mono fun e w' ⟨he, q, hw⟩ => by
    subst hw
    have hc := cptRow_size d
    have hp := holdsK_putRowK encL 2 (Sort.ahead w q) blk off d (cptRow d) (holdsK_ahead encL 2 w q blk off _ hH) hc.2
    have hb : Below B w (putRowK encL 2 (Sort.ahead w q) blk off (cptRow d)) := below_put (below_ahead (Below.refl B w) q) hB
    refine ⟨he, holds_prefix hp (by simp [hc.2, hc.1]) (fun i hi => ?_), hb, by simpa [putRowK] using hblk⟩
    have hi' : i < (cpt d).length := by simpa using hi
    rw [cptRow, List.getElem!_toArray, List.getElem!_toArray]
    rw [getElem!_pos (cpt d) i hi', getElem!_pos (cpt d ++ List.replicate (d.size - (cpt d).length) default) i (by simp; omega), List.getElem_append_left hi']

theorem normal_nil (w : World) : Calls Tryz.prog 97 #[.slice none 0 0] w fun e w' => e = .returned (.slice none 0 0) ∧ w = w' := by
  go_enter Tryz.func97, Tryz.ntmps97
  go_wp2_with (first | (go_at_call 92; refine (clone_nil _).mono ?_; rintro e w' ⟨rfl, rfl⟩) | (go_at_call 144; refine (sort_nil _).mono ?_; rintro e w' ⟨rfl, rfl⟩) | (go_at_call 146; refine (compact_nil _).mono ?_; rintro e w' ⟨rfl, rfl⟩))
  go_ret
  exact ⟨rfl, rfl⟩

set_option maxHeartbeats 400000 in
theorem normal_some (b off cap : Nat) (xs : List Lt) (w : World) (hn : xs.length ≤ 1000000)
    (h : ∀ i, i < xs.length → w.cell? ⟨b, off + i * 2, none⟩ = some (.bool (xs[i]!).neg) ∧ w.cell? ⟨b, off + i * 2 + 1, none⟩ = some (.string (xs[i]!).name)) :
    Calls Tryz.prog 97 #[.slice (some ⟨b, off, none⟩) xs.length cap] w fun e w' => ∃ v', e = .returned v' ∧ OwnLits w' w.heap.size v' (nrm xs) ∧ Below w.heap.size w w' := by
  have hc := clone_clean b off cap xs w hn h
  have hsl := srt_len xs
  have HSL := hidIt hsl
  clear h hsl
  go_enter Tryz.func97, Tryz.ntmps97
  go_wp2_with fail
  refine hc.mono ?_
  rintro e w1 ⟨g, cap', rfl, k1, k2, k3, k4, k5, k6⟩
  have K5 := hidIt k5; have K6 := hidIt k6; clear k5 k6
  go_wp2_with fail
  refine (sort_clean w.heap.size g 0 cap' xs _ K5.out k3 k4 (by omega)).mono ?_
  rintro e w2 ⟨rfl, s1, s2, s3⟩
  have S1 := hidIt s1; have S2 := hidIt s2; clear s1 s2
  go_wp2_with fail
  have hcp := compact_clean w.heap.size g 0 cap' (srt xs).toArray w2 S1.out (by have := HSL.out; simp; omega) (by have := HSL.out; simp; omega) k3 s3
  have e1 : (srt xs).toArray.size = xs.length := by rw [List.size_toArray]; exact HSL.out
  rw [e1] at hcp
  refine hcp.mono ?_
  rintro e w3 ⟨rfl, p1, p2, p3⟩
  have P1 := hidIt p1; have P2 := hidIt p2; clear p1 p2 hcp e1
  go_wp2
  go_ret
  refine ⟨_, rfl, .inr ⟨g, cap', rfl, ?_, k2, k3, p3, P1.out⟩, (K6.out.trans S2.out).trans P2.out⟩
  have := (cptRow_size (srt xs).toArray).1
  rw [List.size_toArray, HSL.out] at this
  exact Nat.le_trans this k1

/-- literal.Normal, for every list. -/
theorem normal_any (v : Value) (xs : List Lt) (w : World) (h : LitsAt w v xs) (hn : xs.length ≤ 1000000) :
    Calls Tryz.prog 97 #[v] w fun e w' => ∃ v', e = .returned v' ∧ OwnLits w' w.heap.size v' (nrm xs) ∧ Below w.heap.size w w' := by
  rcases h with ⟨rfl, rfl⟩ | ⟨b, off, cap, rfl, h2, h3, h4, h5⟩
  · refine (normal_nil w).mono ?_
    rintro e w' ⟨rfl, rfl⟩
    exact ⟨_, rfl, .inl ⟨rfl, by simp [nrm, srt, cpt, Lib.compactUpTo]⟩, Below.refl _ _⟩
  · exact normal_some b off cap xs w hn h5
end Go.Proofs.YtmhloapjadhifaaGreatDoor

namespace Go.Proofs.YtmhloapjadhifaaGreatDoor
set_option linter.unusedVariables false
set_option linter.unusedSimpArgs false
open Go

section
variable (P : Program) (ops : Array Oper) (C : World → Prop) (G : World → World → Prop) (R : Tmp → Option (Value → World → Prop))

/-- What is known of the frame's temporaries in the set F, in the world w. -/
def Knows (F : Tmp → Prop) (a : Act) (w : World) : Prop := ∀ s, F s → ∀ r, R s = some r → r (a.eval (.tmp s)) w
/-- What the operation may lean on. -/
def Leans (F : Tmp → Prop) (o : Oper) (a : Act) (w : World) : Prop := ∀ s, F s → s ∈ o.looksAt ops → ∀ r, R s = some r → r (a.eval (.tmp s)) w
def KnownTo (F : Tmp → Prop) (a : Act) : Prop := ∃ w, C w ∧ Knows R F a w
def more (F : Tmp → Prop) (t : Tmp) : Tmp → Prop := fun s => s = t ∨ F s

def relUpon (r : Value → World → Prop) (w : World) : Result Next → Prop
  | .ok (.value u) w' => C w' ∧ G w w' ∧ r u w'
  | .ok .skip w' => C w' ∧ G w w' ∧ r undef w'
  | .ok (.enter f args) w' => Calls P f args w' fun e w'' => ∃ u, e = .returned u ∧ C w'' ∧ G w w'' ∧ r u w''
  | _ => False
def plainUpon (x : Value) (w : World) : Result Next → Prop
  | .ok (.value u) w' => w' = w ∧ u = x
  | .ok .skip w' => w' = w ∧ undef = x
  | _ => False

def opRel (r : Value → World → Prop) (F : Tmp → Prop) (o : Oper) (a : Act) : Prop := ∀ w, C w → Leans ops R F o a w → relUpon P C G r w ((execOp a.eval o).run P w)
def opPlain (x : Value) (F : Tmp → Prop) (o : Oper) (a : Act) : Prop := ∀ w, C w → Leans ops R F o a w → plainUpon x w ((execOp a.eval o).run P w)

/-- One operation that is carried out; what follows is asked of K. -/
def opDo (o : Oper) (K : (Tmp → Prop) → Act → Prop) (F : Tmp → Prop) (a : Act) : Prop :=
  match o.dst with
  | none => opRel P ops C G R (fun _ _ => True) F o a ∧ K F a
  | some t => match R t with
    | none => ∃ x, opPlain P ops C R x F o a ∧ K F (a.put (some t) x)
    | some r => t < a.tmps.size ∧ opRel P ops C G R r F o a ∧ ∀ v, KnownTo C R (more F t) (a.put (some t) v) → K (more F t) (a.put (some t) v)
def opAt (o : Oper) (K : (Tmp → Prop) → Act → Prop) (F : Tmp → Prop) (a : Act) : Prop :=
  (Region.wanted o (yielded ops a.tmps) = true → opDo P ops C G R o K F a) ∧ (Region.wanted o (yielded ops a.tmps) = false → K F (a.put o.dst undef))

def anyR (md : Region.Mode) (E : (Tmp → Prop) → Act → Prop) : Nat → Array Bool → (Tmp → Prop) → Act → Prop
  | 0, listed, F, a => Region.ready md ops listed = [] ∧ E F a
  | n + 1, listed, F, a => (Region.ready md ops listed = [] → E F a) ∧ ∀ i ∈ Region.ready md ops listed, ∀ o, ops[i]? = some o → opAt P ops C G R o (anyR md E n (listed.setIfInBounds i true)) F a

/-- The walk in the order of the text. -/
def walkR (E : (Tmp → Prop) → Act → Prop) : List Oper → (Tmp → Prop) → Act → Prop
  | [], F, a => E F a
  | o :: rest, F, a => opAt P ops C G R o (walkR E rest) F a
end

section
variable {P : Program} {ops : Array Oper} {C : World → Prop} {G : World → World → Prop} {R : Tmp → Option (Value → World → Prop)} {md : Region.Mode} {E : (Tmp → Prop) → Act → Prop}

def Stable (C : World → Prop) (G : World → World → Prop) (R : Tmp → Option (Value → World → Prop)) : Prop := ∀ s r, R s = some r → ∀ v w w', C w → C w' → G w w' → r v w → r v w'

theorem put_size (a : Act) (d : Option Tmp) (v : Value) : (a.put d v).tmps.size = a.tmps.size := by cases d <;> simp [Act.put]
theorem eval_put_self (a : Act) (t : Tmp) (v : Value) (h : t < a.tmps.size) : (a.put (some t) v).eval (.tmp t) = v := by simp [Act.eval, Act.put, h]
theorem eval_put_ne (a : Act) {t s : Tmp} (v : Value) (h : s ≠ t) : (a.put (some t) v).eval (.tmp s) = a.eval (.tmp s) :=
  Act.eval_put fun d hd => by injection hd with hd; subst hd; intro e; injection e with e; exact h e

theorem Knows.put {F : Tmp → Prop} {a : Act} {w : World} {d : Option Tmp} {v : Value} (hf : ∀ t, d = some t → ¬ F t) : Knows R F (a.put d v) w ↔ Knows R F a w := by
  refine ⟨fun h s hs r hr => ?_, fun h s hs r hr => ?_⟩
  · have := h s hs r hr
    rwa [Act.eval_put (fun t ht e => by injection e with e; subst e; exact hf _ ht hs)] at this
  · rw [Act.eval_put (fun t ht e => by injection e with e; subst e; exact hf _ ht hs)]
    exact h s hs r hr
theorem KnownTo.put {F : Tmp → Prop} {a : Act} {d : Option Tmp} {v : Value} (hf : ∀ t, d = some t → ¬ F t) : KnownTo C R F (a.put d v) ↔ KnownTo C R F a :=
  ⟨fun ⟨w, h, k⟩ => ⟨w, h, (Knows.put hf).1 k⟩, fun ⟨w, h, k⟩ => ⟨w, h, (Knows.put hf).2 k⟩⟩
theorem Knows.less {F : Tmp → Prop} {t : Tmp} {a : Act} {w : World} (h : Knows R (more F t) a w) : Knows R F a w := fun s hs => h s (.inr hs)
theorem Knows.leans {F : Tmp → Prop} {o : Oper} {a : Act} {w : World} (h : Knows R F a w) : Leans ops R F o a w := fun s hs _ => h s hs
theorem Knows.made (hR : Stable C G R) {F : Tmp → Prop} {a : Act} {w w' : World} {t : Tmp} {v : Value} {r : Value → World → Prop} (h : Knows R F a w) (hC : C w) (hC' : C w') (hG : G w w') (hf : ¬ F t) (ht : t < a.tmps.size) (hr : R t = some r) (hv : r v w') :
    Knows R (more F t) (a.put (some t) v) w' := by
  intro s hs r' hr'
  rcases hs with rfl | hs
  · rw [eval_put_self _ _ _ ht]
    rw [hr] at hr'
    injection hr' with hr'
    rw [← hr']
    exact hv
  · have hne : s ≠ t := fun e => hf (e ▸ hs)
    rw [eval_put_ne _ _ hne]
    exact hR s r' hr' _ w w' hC hC' hG (h s hs r' hr')
theorem Knows.grown (hR : Stable C G R) {F : Tmp → Prop} {a : Act} {w w' : World} (h : Knows R F a w) (hC : C w) (hC' : C w') (hG : G w w') : Knows R F a w' := fun s hs r hr => hR s r hr _ w w' hC hC' hG (h s hs r hr)

/-- Some outcome of an operation. -/
theorem rel_some {r : Value → World → Prop} {w : World} {x : Result Next} (h : relUpon P C G r w x) : ∃ u w', C w' ∧ G w w' ∧ r u w' := by
  unfold relUpon at h
  split at h
  · exact ⟨_, _, h⟩
  · exact ⟨_, _, h⟩
  · obtain ⟨e, w', fr, ⟨u, he, hu⟩, -⟩ := h []
    exact ⟨u, w', hu⟩
  · exact h.elim

theorem plain_same {x y : Value} {w : World} {r : Result Next} (h : plainUpon x w r) (h' : plainUpon y w r) : x = y := by
  unfold plainUpon at h h'
  split at h
  · exact h.2.symm.trans h'.2
  · exact h.2.symm.trans h'.2
  · exact h.elim

/-- From every world of the class in which what is known holds. -/
theorem wpAny_of_anyR (hR : Stable C G R) {Q : Exit → Act → World → Prop} (hE : ∀ F a w, C w → Knows R F a w → E F a → Q .normal a w) (hD : ∀ (k k' : Nat) (o o' : Oper) (t : Tmp), ops[k]? = some o → ops[k']? = some o' → o.dst = some t → o'.dst = some t → k = k') :
    ∀ (n : Nat) (listed : Array Bool) (F : Tmp → Prop) (a : Act) (w : World), (∀ (k : Nat) (o : Oper) (t : Tmp), ops[k]? = some o → listed.getD k true = false → o.dst = some t → ¬ F t) → C w → Knows R F a w → anyR P ops C G R md E n listed F a → wpAny P md ops Q n listed a w
  | 0, _, F, a, w, _, hC, hK, h => ⟨h.1, hE F a w hC hK h.2⟩
  | n + 1, listed, F, a, w, hf, hC, hK, h => by
    refine ⟨fun h0 => hE F a w hC hK (h.1 h0), fun i hi => ?_⟩
    obtain ⟨hun, o, ho, -⟩ := mem_ready.1 hi
    obtain ⟨h1, h2⟩ := h.2 i hi o ho
    have hfo := hf i o
    have hf' : ∀ (k : Nat) (o' : Oper) (t : Tmp), ops[k]? = some o' → (listed.setIfInBounds i true).getD k true = false → o'.dst = some t → ¬ F t := fun k o' t hk hl ht => by
      by_cases hki : i = k
      · subst hki; exact hf i o' t hk hun ht
      · rw [getD_set_ne true hki] at hl; exact hf k o' t hk hl ht
    have hsame : ∀ d v, o.dst = d → anyR P ops C G R md E n (listed.setIfInBounds i true) F (a.put d v) → wpAny P md ops Q n (listed.setIfInBounds i true) (a.put d v) w := fun d v hd hk =>
      wpAny_of_anyR hR hE hD n _ F _ w hf' hC ((Knows.put fun t ht => hfo t ho hun (hd.trans ht)).2 hK) hk
    unfold wpOp
    simp only [ho]
    cases hw : Region.wanted o (yielded ops a.tmps)
    · simp only [Bool.false_eq_true, if_false]
      exact hsame _ _ rfl (h2 hw)
    · simp only [if_true]
      refine .inl ?_
      have h3 := h1 hw
      unfold opDo at h3
      unfold Oper.wp
      cases hd : o.dst with
      | none =>
        simp only [hd] at h3
        obtain ⟨h4, h5⟩ := h3
        have h6 := h4 w hC hK.leans
        generalize (execOp a.eval o).run P w = x at h6 ⊢
        have fin : ∀ w', C w' → G w w' → ∀ v, wpAny P md ops Q n (listed.setIfInBounds i true) (a.put o.dst v) w' := fun w' hC' hG v => by
          rw [hd]
          exact wpAny_of_anyR hR hE hD n _ F _ w' hf' hC' (hK.grown hR hC hC' hG) h5
        unfold relUpon at h6
        split at h6
        · exact fin _ h6.1 h6.2.1 _
        · exact fin _ h6.1 h6.2.1 _
        · exact h6.mono fun e w'' ⟨u, he, hC', hG, _⟩ => by subst he; exact fin _ hC' hG _
        · exact h6.elim
      | some t =>
        simp only [hd] at h3
        cases hr : R t with
        | none =>
          simp only [hr] at h3
          obtain ⟨x, h4, h5⟩ := h3
          have h6 := h4 w hC hK.leans
          generalize (execOp a.eval o).run P w = y at h6 ⊢
          have fin := hsame (some t) x hd h5
          unfold plainUpon at h6
          split at h6
          · obtain ⟨rfl, rfl⟩ := h6
            show wpAny P md ops Q n _ (a.put o.dst _) _
            rw [hd]; exact fin
          · obtain ⟨rfl, rfl⟩ := h6
            show wpAny P md ops Q n _ (a.put o.dst _) _
            rw [hd]; exact fin
          · exact h6.elim
        | some r =>
          simp only [hr] at h3
          obtain ⟨hlt, h4, h5⟩ := h3
          have h6 := h4 w hC hK.leans
          generalize (execOp a.eval o).run P w = y at h6 ⊢
          have fin : ∀ w' v, C w' → G w w' → r v w' → wpAny P md ops Q n (listed.setIfInBounds i true) (a.put o.dst v) w' := fun w' v hC' hG hv => by
            have hk := hK.made hR hC hC' hG (hfo t ho hun hd) hlt hr hv
            rw [hd]
            refine wpAny_of_anyR hR hE hD n _ (more F t) _ w' (fun k o' t' hk' hl ht' => ?_) hC' hk (h5 v ⟨w', hC', hk⟩)
            rintro (rfl | hF)
            · obtain rfl : k = i := hD k i o' o _ hk' ho ht' hd
              have : k < listed.size := by
                rcases Nat.lt_or_ge k listed.size with h' | h'
                · exact h'
                · simp [Array.getElem?_eq_none h'] at hun
              simp [this] at hl
            · exact hf' k o' t' hk' hl ht' hF
          unfold relUpon at h6
          split at h6
          · exact fin _ _ h6.1 h6.2.1 h6.2.2
          · exact fin _ _ h6.1 h6.2.1 h6.2.2
          · exact h6.mono fun e w'' ⟨u, he, hC', hG, hv⟩ => by subst he; exact fin _ _ hC' hG hv
          · exact h6.elim

theorem Leans.put {F : Tmp → Prop} {o : Oper} {a : Act} {w : World} {d : Option Tmp} {v : Value} (h : ∀ t, d = some t → t ∉ o.looksAt ops) : Leans ops R F o (a.put d v) w ↔ Leans ops R F o a w := by
  refine ⟨fun h1 s hs hl r hr => ?_, fun h1 s hs hl r hr => ?_⟩
  · have := h1 s hs hl r hr
    rwa [Act.eval_put (fun t ht e => by injection e with e; subst e; exact h _ ht hl)] at this
  · rw [Act.eval_put (fun t ht e => by injection e with e; subst e; exact h _ ht hl)]
    exact h1 s hs hl r hr
theorem Leans.more_iff {F : Tmp → Prop} {o : Oper} {a : Act} {w : World} {t : Tmp} (h : t ∉ o.looksAt ops) : Leans ops R (more F t) o a w ↔ Leans ops R F o a w :=
  ⟨fun h1 s hs => h1 s (.inr hs), fun h1 s hs hl => by
    rcases hs with rfl | hs
    · exact absurd hl h
    · exact h1 s hs hl⟩

variable (hsel : ∀ (j : Nat) (o : Oper) cs b, ops[j]? = some o → o.op ≠ .select cs b)

theorem opRel_put {o : Oper} {r : Value → World → Prop} {F : Tmp → Prop} {a : Act} {d : Option Tmp} {v : Value} (hs : ∀ cs b, o.op ≠ .select cs b) (h : ∀ t, d = some t → t ∉ o.looksAt ops) : opRel P ops C G R r F o (a.put d v) ↔ opRel P ops C G R r F o a := by
  unfold opRel
  rw [execOp_put (ops := ops) o hs a d v h]
  exact forall_congr' fun w => forall_congr' fun _ => by rw [Leans.put h]
theorem opRel_more {o : Oper} {r : Value → World → Prop} {F : Tmp → Prop} {a : Act} {t : Tmp} (h : t ∉ o.looksAt ops) : opRel P ops C G R r (more F t) o a ↔ opRel P ops C G R r F o a := by
  unfold opRel
  exact forall_congr' fun w => forall_congr' fun _ => by rw [Leans.more_iff h]
theorem opPlain_put {o : Oper} {x : Value} {F : Tmp → Prop} {a : Act} {d : Option Tmp} {v : Value} (hs : ∀ cs b, o.op ≠ .select cs b) (h : ∀ t, d = some t → t ∉ o.looksAt ops) : opPlain P ops C R x F o (a.put d v) ↔ opPlain P ops C R x F o a := by
  unfold opPlain
  rw [execOp_put (ops := ops) o hs a d v h]
  exact forall_congr' fun w => forall_congr' fun _ => by rw [Leans.put h]
theorem opPlain_more {o : Oper} {x : Value} {F : Tmp → Prop} {a : Act} {t : Tmp} (h : t ∉ o.looksAt ops) : opPlain P ops C R x (more F t) o a ↔ opPlain P ops C R x F o a := by
  unfold opPlain
  exact forall_congr' fun w => forall_congr' fun _ => by rw [Leans.more_iff h]

theorem more_comm (F : Tmp → Prop) (s t : Tmp) : more (more F s) t = more (more F t) s := by
  funext x
  exact propext ⟨fun h => by rcases h with h | h | h <;> simp [more, h], fun h => by rcases h with h | h | h <;> simp [more, h]⟩

theorem not_more {F : Tmp → Prop} {s t : Tmp} (h : ¬ F s) (hne : s ≠ t) : ¬ more F t s := fun hm => by
  rcases hm with rfl | hm
  · exact hne rfl
  · exact h hm
/-- How an operation goes: by one value (some x), or by its relation (none). -/
def Ev (P : Program) (ops : Array Oper) (C : World → Prop) (G : World → World → Prop) (R : Tmp → Option (Value → World → Prop)) (o : Oper) (F : Tmp → Prop) (a : Act) : Option Value → Prop
  | some x => (Region.wanted o (yielded ops a.tmps) = false ∧ x = undef) ∨ (Region.wanted o (yielded ops a.tmps) = true ∧ ((o.dst = none ∧ opRel P ops C G R (fun _ _ => True) F o a ∧ x = undef) ∨ ∃ t, o.dst = some t ∧ R t = none ∧ opPlain P ops C R x F o a))
  | none => Region.wanted o (yielded ops a.tmps) = true ∧ ∃ t r, o.dst = some t ∧ R t = some r ∧ t < a.tmps.size ∧ opRel P ops C G R r F o a

theorem opAt_iff {o : Oper} {K : (Tmp → Prop) → Act → Prop} {F : Tmp → Prop} {a : Act} : opAt P ops C G R o K F a ↔
    (∃ x, Ev P ops C G R o F a (some x) ∧ K F (a.put o.dst x)) ∨ (Ev P ops C G R o F a none ∧ ∀ t, o.dst = some t → ∀ v, KnownTo C R (more F t) (a.put (some t) v) → K (more F t) (a.put (some t) v)) := by
  unfold opAt Ev
  cases hw : Region.wanted o (yielded ops a.tmps)
  · constructor
    · rintro ⟨-, h⟩
      exact .inl ⟨undef, .inl ⟨rfl, rfl⟩, h rfl⟩
    · rintro (⟨x, (⟨-, rfl⟩ | ⟨h, -⟩), hk⟩ | ⟨⟨h, -⟩, -⟩)
      · exact ⟨fun h => (by cases h), fun _ => hk⟩
      · cases h
      · cases h
  · unfold opDo
    cases hd : o.dst with
    | none =>
      constructor
      · rintro ⟨h, -⟩
        obtain ⟨h1, h2⟩ := h (by trivial)
        exact .inl ⟨undef, .inr ⟨by trivial, .inl ⟨rfl, h1, rfl⟩⟩, h2⟩
      · rintro (⟨x, (⟨h, -⟩ | ⟨-, (⟨-, h1, -⟩ | ⟨t, h, -⟩)⟩), hk⟩ | ⟨⟨-, t, r, h, -⟩, -⟩)
        · cases h
        · exact ⟨fun _ => ⟨h1, hk⟩, fun h => by cases h⟩
        · cases h
        · cases h
    | some t =>
      cases hr : R t with
      | none =>
        simp only [hr]
        constructor
        · rintro ⟨h, -⟩
          obtain ⟨x, h1, h2⟩ := h (by trivial)
          exact .inl ⟨x, .inr ⟨by trivial, .inr ⟨t, rfl, hr, h1⟩⟩, h2⟩
        · rintro (⟨x, (⟨h, -⟩ | ⟨-, (⟨h, -⟩ | ⟨t', h, hr', h1⟩)⟩), hk⟩ | ⟨⟨-, t', r, h, hr', -⟩, -⟩)
          · cases h
          · cases h
          · exact ⟨fun _ => ⟨x, h1, hk⟩, fun h => by cases h⟩
          · injection h with h
            subst h
            rw [hr] at hr'
            cases hr'
      | some r =>
        simp only [hr]
        constructor
        · rintro ⟨h, -⟩
          obtain ⟨h1, h2, h3⟩ := h (by trivial)
          refine .inr ⟨⟨by trivial, t, r, rfl, hr, h1, h2⟩, fun t' ht' => ?_⟩
          injection ht' with ht'
          subst ht'
          exact h3
        · rintro (⟨x, (⟨h, -⟩ | ⟨-, (⟨h, -⟩ | ⟨t', h, hr', h1⟩)⟩), hk⟩ | ⟨⟨-, t', r', h, hr', h1, h2⟩, h3⟩)
          · cases h
          · cases h
          · injection h with h
            subst h
            rw [hr] at hr'
            cases hr'
          · injection h with h
            subst h
            rw [hr] at hr'
            injection hr' with hr'
            subst hr'
            exact ⟨fun _ => ⟨h1, h2, h3 _ rfl⟩, fun h => by cases h⟩

theorem Ev.put {o : Oper} {F : Tmp → Prop} {a : Act} {d : Option Tmp} {v : Value} {y : Option Value} (hs : ∀ cs b, o.op ≠ .select cs b) (h : ∀ t, d = some t → t ∉ o.looksAt ops) : Ev P ops C G R o F (a.put d v) y ↔ Ev P ops C G R o F a y := by
  cases y with
  | none => simp only [Ev, wanted_put o a d v h, opRel_put hs h, put_size]
  | some x => simp only [Ev, wanted_put o a d v h, opRel_put hs h, opPlain_put hs h]
theorem Ev.more {o : Oper} {F : Tmp → Prop} {a : Act} {t : Tmp} {y : Option Value} (h : t ∉ o.looksAt ops) : Ev P ops C G R o (more F t) a y ↔ Ev P ops C G R o F a y := by
  cases y with
  | none => simp only [Ev, opRel_more h]
  | some x => simp only [Ev, opRel_more h, opPlain_more h]

theorem Ev.same {o : Oper} {F : Tmp → Prop} {a : Act} {x : Value} {y : Option Value} (hk : KnownTo C R F a) (h : Ev P ops C G R o F a (some x)) (h' : Ev P ops C G R o F a y) : y = some x := by
  obtain ⟨w, hC, hK⟩ := hk
  cases y with
  | none =>
    obtain ⟨h1, t, r, h2, h3, -⟩ := h'
    rcases h with ⟨h4, -⟩ | ⟨-, (⟨h4, -⟩ | ⟨t', h4, h5, -⟩)⟩
    · rw [h1] at h4; cases h4
    · rw [h2] at h4; cases h4
    · rw [h2] at h4
      injection h4 with h4
      subst h4
      rw [h3] at h5
      cases h5
  | some y =>
    rcases h with ⟨h1, rfl⟩ | ⟨h1, (⟨h4, -, rfl⟩ | ⟨t, h4, h5, h6⟩)⟩ <;> rcases h' with ⟨k1, rfl⟩ | ⟨k1, (⟨k4, -, rfl⟩ | ⟨t', k4, k5, k6⟩)⟩
    · rfl
    · rfl
    · rw [h1] at k1; cases k1
    · rfl
    · rfl
    · rw [h4] at k4; cases k4
    · rw [h1] at k1; cases k1
    · rw [h4] at k4; cases k4
    · rw [plain_same (h6 w hC hK.leans) (k6 w hC hK.leans)]

theorem Ev.some_value (hR : Stable C G R) {o : Oper} {F : Tmp → Prop} {a : Act} {t : Tmp} (hk : KnownTo C R F a) (hf : ¬ F t) (ht : o.dst = some t) (h : Ev P ops C G R o F a none) : ∃ v, KnownTo C R (Go.Proofs.YtmhloapjadhifaaGreatDoor.more F t) (a.put (some t) v) := by
  obtain ⟨w, hC, hK⟩ := hk
  obtain ⟨-, t', r, h2, h3, h4, h5⟩ := h
  rw [ht] at h2
  injection h2 with h2
  subst h2
  obtain ⟨u, w', hC', hG, hu⟩ := rel_some (h5 w hC hK.leans)
  exact ⟨u, w', hC', hK.made hR hC hC' hG hf h4 h3 hu⟩

theorem opAt_mono {o : Oper} {K K' : (Tmp → Prop) → Act → Prop} {F : Tmp → Prop} {a : Act} (hk : KnownTo C R F a) (hf : ∀ t, o.dst = some t → ¬ F t)
    (h : ∀ F1 a1, KnownTo C R F1 a1 → (F1 = F ∨ ∃ t, o.dst = some t ∧ F1 = more F t) → K F1 a1 → K' F1 a1) (hh : opAt P ops C G R o K F a) : opAt P ops C G R o K' F a := by
  rw [opAt_iff] at *
  rcases hh with ⟨x, h1, h2⟩ | ⟨h1, h2⟩
  · exact .inl ⟨x, h1, h _ _ ((KnownTo.put hf).2 hk) (.inl rfl) h2⟩
  · exact .inr ⟨h1, fun t ht v hv => h _ _ hv (.inr ⟨t, ht, rfl⟩) (h2 t ht v hv)⟩

theorem opAt_some (hR : Stable C G R) {o : Oper} {K : (Tmp → Prop) → Act → Prop} {F : Tmp → Prop} {a : Act} (hk : KnownTo C R F a) (hf : ∀ t, o.dst = some t → ¬ F t) (hh : opAt P ops C G R o K F a) : ∃ F' a', K F' a' := by
  rw [opAt_iff] at hh
  rcases hh with ⟨x, h1, h2⟩ | ⟨h1, h2⟩
  · exact ⟨_, _, h2⟩
  · obtain ⟨-, t, r, ht, -⟩ := id h1
    obtain ⟨v, hv⟩ := h1.some_value hR hk (hf t ht) ht
    exact ⟨_, _, h2 t ht v hv⟩

theorem opAt_swap (hR : Stable C G R) {oi oj : Oper} {K : (Tmp → Prop) → Act → Prop} {F : Tmp → Prop} {a : Act} (hap : oi.apart ops oj = true) (hsi : ∀ cs b, oi.op ≠ .select cs b) (hsj : ∀ cs b, oj.op ≠ .select cs b)
    (hk : KnownTo C R F a) (hfi : ∀ t, oi.dst = some t → ¬ F t) (hfj : ∀ t, oj.dst = some t → ¬ F t)
    (h : opAt P ops C G R oi (fun F1 a1 => opAt P ops C G R oj K F1 a1) F a) : opAt P ops C G R oj (fun F2 a2 => opAt P ops C G R oi K F2 a2) F a := by
  obtain ⟨a1, a2, a3⟩ := Oper.apart_spec hap
  have hne : ∀ s t, oi.dst = some s → oj.dst = some t → s ≠ t := fun s t hs ht e => a2 s hs (by rw [ht, e])
  have hmi : ∀ t, oj.dst = some t → ∀ s, oi.dst = some s → ¬ more F t s := fun t ht s hs => not_more (hfi s hs) (hne s t hs ht)
  have hmj : ∀ t, oi.dst = some t → ∀ s, oj.dst = some s → ¬ more F t s := fun t ht s hs => not_more (hfj s hs) (fun e => hne t s ht hs e.symm)
  simp only [opAt_iff] at *
  rcases h with ⟨x, h1, ⟨y, h2, h3⟩ | ⟨h2, h3⟩⟩ | ⟨h1, h3⟩
  · refine .inl ⟨y, (Ev.put hsj a1).1 h2, .inl ⟨x, (Ev.put hsi a3).2 h1, ?_⟩⟩
    rw [← Act.put_comm a x y a2]
    exact h3
  · refine .inr ⟨(Ev.put hsj a1).1 h2, fun t ht v hv => .inl ⟨x, ?_, ?_⟩⟩
    · exact (Ev.more (a3 t ht)).2 ((Ev.put hsi (fun s hs => by injection hs with hs; subst hs; exact a3 _ ht)).2 h1)
    · have e := Act.put_comm a (x := oi.dst) (y := some t) x v (fun d hd => by rw [← ht]; exact a2 d hd)
      rw [← e]
      refine h3 t ht v ?_
      rw [e]
      exact (KnownTo.put (hmi t ht)).2 hv
  · obtain ⟨-, t, r, ht, -⟩ := id h1
    have e : ∀ y v, (a.put (some t) v).put oj.dst y = (a.put oj.dst y).put (some t) v := fun y v => Act.put_comm a v y (fun d hd => by injection hd with hd; subst hd; exact a2 t ht)
    obtain ⟨v0, hv0⟩ := h1.some_value hR hk (hfi t ht) ht
    have down : ∀ v z, Ev P ops C G R oj (more F t) (a.put (some t) v) z → Ev P ops C G R oj F a z := fun v z hz => (Ev.put hsj (fun s hs => by injection hs with hs; subst hs; exact a1 _ ht)).1 ((Ev.more (a1 t ht)).1 hz)
    rcases h3 t ht v0 hv0 with ⟨y0, h4, h5⟩ | ⟨h4, h5⟩
    · refine .inl ⟨y0, down _ _ h4, .inr ⟨(Ev.put hsi a3).2 h1, fun t' ht' v hv => ?_⟩⟩
      obtain rfl : t = t' := by rw [ht] at ht'; injection ht'
      rw [← e] at hv ⊢
      have hv' := (KnownTo.put (hmj t ht)).1 hv
      rcases h3 t ht v hv' with ⟨y, h6, h7⟩ | ⟨h6, h7⟩
      · have h8 := Ev.same hk (down _ _ h4) (down _ _ h6)
        injection h8 with h8
        rw [h8] at h7
        exact h7
      · have h8 := Ev.same hk (down _ _ h4) (down _ _ h6)
        cases h8
    · refine .inr ⟨down _ _ h4, fun s hs u hu => .inr ⟨?_, fun t' ht' v hv => ?_⟩⟩
      · exact (Ev.more (a3 s hs)).2 ((Ev.put hsi (fun s' hs' => by injection hs' with hs'; subst hs'; exact a3 _ hs)).2 h1)
      · obtain rfl : t = t' := by rw [ht] at ht'; injection ht'
        have e2 : (a.put (some t) v).put (some s) u = (a.put (some s) u).put (some t) v := by rw [← hs]; exact e u v
        rw [more_comm, ← e2] at hv ⊢
        have hv' : KnownTo C R (more F t) (a.put (some t) v) := by
          obtain ⟨w, hC, hK⟩ := hv
          exact ⟨w, hC, (Knows.put (d := some s) (fun s' hs' => by injection hs' with hs'; subst hs'; exact hmj t ht _ hs)).1 hK.less⟩
        rcases h3 t ht v hv' with ⟨y, h6, h7⟩ | ⟨h6, h7⟩
        · have h8 := Ev.same hk (down _ _ h6) (down _ _ h4)
          cases h8
        · exact h7 s hs u hv

theorem fresh_next (hD : ∀ (k k' : Nat) (o o' : Oper) (t : Tmp), ops[k]? = some o → ops[k']? = some o' → o.dst = some t → o'.dst = some t → k = k') {listed : Array Bool} {F F1 : Tmp → Prop} {i : Nat} {oi : Oper} (hi : ops[i]? = some oi) (hun : listed.getD i true = false)
    (hf : ∀ (k : Nat) (o : Oper) (t : Tmp), ops[k]? = some o → listed.getD k true = false → o.dst = some t → ¬ F t) (h1 : F1 = F ∨ ∃ t, oi.dst = some t ∧ F1 = more F t) :
    ∀ (k : Nat) (o : Oper) (t : Tmp), ops[k]? = some o → (listed.setIfInBounds i true).getD k true = false → o.dst = some t → ¬ F1 t := by
  intro k o t hk hl ht
  have hki : i ≠ k := fun e => by
    subst e
    have : i < listed.size := by
      rcases Nat.lt_or_ge i listed.size with h' | h'
      · exact h'
      · simp [Array.getElem?_eq_none h'] at hun
    simp [this] at hl
  rw [getD_set_ne true hki] at hl
  rcases h1 with rfl | ⟨s, hs, rfl⟩
  · exact hf k o t hk hl ht
  · exact not_more (hf k o t hk hl ht) (fun e => hki (hD i k oi o s hi hk hs (by rw [ht, e])))

theorem anyR_first (hR : Stable C G R) (hD : ∀ (k k' : Nat) (o o' : Oper) (t : Tmp), ops[k]? = some o → ops[k']? = some o' → o.dst = some t → o'.dst = some t → k = k') (hsel : ∀ (j : Nat) (o : Oper) cs b, ops[j]? = some o → o.op ≠ .select cs b) {i : Nat} {oi : Oper} (hi : ops[i]? = some oi) :
    ∀ (n : Nat) (listed : Array Bool) (F : Tmp → Prop) (a : Act),
      (∀ j oj, ops[j]? = some oj → j ≠ i → listed.getD j true = false → (∀ e ∈ oj.after, Region.binds md e = true → e.on ≠ i) → oi.apart ops oj = true) →
      i ∈ Region.ready md ops listed → (∀ (k : Nat) (o : Oper) (t : Tmp), ops[k]? = some o → listed.getD k true = false → o.dst = some t → ¬ F t) → KnownTo C R F a →
      opAt P ops C G R oi (anyR P ops C G R md E n (listed.setIfInBounds i true)) F a → anyR P ops C G R md E (n + 1) listed F a := by
  intro n
  induction n with
  | zero =>
    intro listed F a _ hr hf hk H
    have hun := (mem_ready.1 hr).1
    refine ⟨fun h => (by rw [h] at hr; cases hr), fun j hj oj hoj => ?_⟩
    by_cases hji : j = i
    · subst hji
      rw [hi] at hoj
      injection hoj with hoj
      subst hoj
      exact H
    · obtain ⟨F', a', h0, -⟩ := opAt_some hR hk (fun t ht => hf i oi t hi hun ht) H
      have := ready_mono hj hji
      rw [h0] at this
      cases this
  | succ n ih =>
    intro listed F a hfree hr hf hk H
    have hun := (mem_ready.1 hr).1
    refine ⟨fun h => (by rw [h] at hr; cases hr), fun j hj oj hoj => ?_⟩
    by_cases hji : j = i
    · subst hji
      rw [hi] at hoj
      injection hoj with hoj
      subst hoj
      exact H
    · obtain ⟨hjun, oj', hoj', hall⟩ := mem_ready.1 hj
      rw [hoj] at hoj'
      injection hoj' with hoj'
      subst hoj'
      have hnot : ∀ e ∈ oj.after, Region.binds md e = true → e.on ≠ i := fun e he hb heq => by
        have h1 := hall e he hb
        rw [heq] at h1
        rcases Nat.lt_or_ge i listed.size with h' | h'
        · simp [h'] at hun h1; rw [hun] at h1; cases h1
        · simp [Array.getElem?_eq_none h'] at h1
      have hap := hfree j oj hoj hji hjun hnot
      have hfi : ∀ t, oi.dst = some t → ¬ F t := fun t ht => hf i oi t hi hun ht
      have hfj : ∀ t, oj.dst = some t → ¬ F t := fun t ht => hf j oj t hoj hjun ht
      have h1 := opAt_swap hR (K := anyR P ops C G R md E n ((listed.setIfInBounds i true).setIfInBounds j true)) hap (fun cs b => hsel i oi cs b hi) (fun cs b => hsel j oj cs b hoj) hk hfi hfj
        (opAt_mono hk hfi (fun F1 a1 _ _ h2 => h2.2 j (ready_mono hj hji) oj hoj) H)
      refine opAt_mono hk hfj (fun F1 a1 hk1 hF1 h2 => ?_) h1
      rw [Array.setIfInBounds_comm _ _ (Ne.symm hji)] at h2
      refine ih (listed.setIfInBounds j true) F1 a1 (fun k ok hok hki hun' hno => ?_) (ready_mono hr (Ne.symm hji)) (fresh_next hD hoj hjun hf hF1) hk1 h2
      refine hfree k ok hok hki ?_ hno
      by_cases hjk : j = k
      · subst hjk; exact hjun
      · rw [getD_set_ne true hjk] at hun'; exact hun'

theorem walkR_any (hR : Stable C G R) (hD : ∀ (k k' : Nat) (o o' : Oper) (t : Tmp), ops[k]? = some o → ops[k']? = some o' → o.dst = some t → o'.dst = some t → k = k') (hs : Region.noSelect ops = true) :
    ∀ (l : List Oper) (k : Nat) (listed : Array Bool) (F : Tmp → Prop) (a : Act), (∀ j, l[j]? = ops[k + j]?) → Region.lexFrom md ops l.length k listed = true →
      (∀ (k : Nat) (o : Oper) (t : Tmp), ops[k]? = some o → listed.getD k true = false → o.dst = some t → ¬ F t) → KnownTo C R F a → walkR P ops C G R E l F a → anyR P ops C G R md E l.length listed F a
  | [], _, _, _, _, _, hB, _, _, h => ⟨by simpa [Region.lexFrom] using hB, h⟩
  | o :: l, k, listed, F, a, hl, hB, hf, hk, h => by
    have h0 : ops[k]? = some o := by simpa using (hl 0).symm
    simp only [List.length_cons, Region.lexFrom, Bool.and_eq_true] at hB
    obtain ⟨⟨hr, hfr⟩, hB'⟩ := hB
    have hr' : k ∈ Region.ready md ops listed := by simpa using hr
    have hun := (mem_ready.1 hr').1
    refine anyR_first hR hD (Region.noSelect_spec hs) h0 l.length listed F a (Region.free_spec h0 hfr) hr' hf hk ?_
    refine opAt_mono hk (fun t ht => hf k o t h0 hun ht) (fun F1 a1 hk1 hF1 h2 => ?_) (show opAt P ops C G R o (walkR P ops C G R E l) F a from h)
    exact walkR_any hR hD hs l (k + 1) _ F1 a1 (fun j => by have := hl (j + 1); simpa [Nat.add_assoc, Nat.add_comm 1 j] using this) hB' (fresh_next hD h0 hun hf hF1) hk1 h2

/-- No two operations write one temporary. -/
def apartDst (l : List Oper) : Bool := (List.range l.length).all fun k => (List.range l.length).all fun k' => k == k' || match (l[k]?).bind (·.dst), (l[k']?).bind (·.dst) with
  | some s, some t => s != t
  | _, _ => true
theorem apartDst_spec {l : List Oper} (h : apartDst l = true) (k k' : Nat) (o o' : Oper) (t : Tmp) (ho : l.toArray[k]? = some o) (ho' : l.toArray[k']? = some o') (hd : o.dst = some t) (hd' : o'.dst = some t) : k = k' := by
  simp only [List.getElem?_toArray] at ho ho'
  have hk : k < l.length := (List.getElem?_eq_some_iff.1 ho).1
  have hk' : k' < l.length := (List.getElem?_eq_some_iff.1 ho').1
  simp only [apartDst, List.all_eq_true, List.mem_range] at h
  have h1 := h k hk k' hk'
  rw [ho, ho'] at h1
  simp only [Option.bind_some, hd, hd', bne_self_eq_false, Bool.or_false, beq_iff_eq] at h1
  exact h1

/-- **A region whose operations are written out, in a class of worlds, with relations.** -/
theorem wp_region_rel {P : Program} (C : World → Prop) (G : World → World → Prop) (R : Tmp → Option (Value → World → Prop)) {id : Nat} {Q : Exit → Act → World → Prop} {a : Act} {w : World} {l : List Oper}
    (hm : P.follows .mixedOrders = true) (hB : Region.lexB .any l.toArray = true) (hA : apartDst l = true) (hR : Stable C G R) (hC : C w.drew)
    (h : walkR P l.toArray C G R (fun F a' => ∀ w', C w' → Knows R F a' w' → Q .normal a' w') l (fun _ => False) a) : (Code.region id l.toArray true).wp P Q a w := by
  simp only [Region.lexB, Bool.and_eq_true] at hB
  have hD := apartDst_spec hA
  have hk : ∀ w, Knows R (fun _ => False) a w := fun w s hs => hs.elim
  refine wp_region_any hm (wpAny_of_anyR hR (E := fun F a' => ∀ w', C w' → Knows R F a' w' → Q .normal a' w') (fun F a w hC hK h => h w hC hK) hD _ _ (fun _ => False) a _ (fun _ _ _ _ _ _ h => h) hC (hk _) ?_)
  have := walkR_any (md := .any) hR hD hB.1 l 0 (Array.replicate l.toArray.size false) (fun _ => False) a (by simp) (by simpa using hB.2) (fun _ _ _ _ _ _ h => h) ⟨_, hC, hk _⟩ h
  simpa using this
end
end Go.Proofs.YtmhloapjadhifaaGreatDoor

namespace Go.Proofs.YtmhloapjadhifaaGreatDoor
set_option linter.unusedVariables false
set_option linter.unusedSimpArgs false
open Go Go.RowKit

/-- A world of the class D. -/
structure In (D : World → Prop) where
  w : World
  h : D w

theorem wp_region_in {P : Program} (D : World → Prop) {id : Nat} {Q : Exit → Act → World → Prop} {a : Act} {w : World} {l : List Oper} (hm : P.follows .mixedOrders = true) (hB : Region.lexB .any l.toArray = true) (hD : D w.drew)
    (h : wpQuiet P l.toArray (fun w' => ∃ x : In D, w' = x.w) (fun a' => ∀ w', (∃ x : In D, w' = x.w) → Q .normal a' w') l a) : (Code.region id l.toArray true).wp P Q a w :=
  wp_region_quiet (C := fun w' => ∃ x : In D, w' = x.w) hm hB ⟨⟨_, hD⟩, rfl⟩ (by simpa using h)

/-- A callee's contract, met in a world of the class. -/
theorem Calls.in_of {P : Program} {f : FuncId} {args : Array Value} {D : World → Prop} {x : In D} {v : Value}
    (h : Calls P f args x.w fun e w' => e = .returned v ∧ D w') : Calls P f args x.w fun e w'' => e = .returned v ∧ ∃ y : In D, w'' = y.w :=
  h.mono fun _ w' ⟨he, hw⟩ => ⟨he, ⟨w', hw⟩, rfl⟩

/-- The worlds that come of W by making memory alone. -/
def Ext (W : World) : World → Prop := fun w' => Below W.heap.size W w'
theorem Ext.start (W : World) : Ext W W.drew := (Below.refl _ _).drew
theorem Ext.nonempty (W : World) : Nonempty (In (Ext W)) := ⟨⟨_, Ext.start W⟩⟩
theorem Ext.cell {W : World} {b o : Nat} {v : Value} (h : W.cell? ⟨b, o, none⟩ = some v) (y : In (Ext W)) : y.w.cell? ⟨b, o, none⟩ = some v :=
  (Below.cell (p := ⟨b, o, none⟩) y.h (World.block_lt_of_cell? W ⟨b, o, none⟩ h)).trans h
theorem Ext.call {P : Program} {f : FuncId} {args : Array Value} {W : World} {x : In (Ext W)} {v : Value}
    (h : Calls P f args x.w fun e w' => e = .returned v ∧ Below x.w.heap.size x.w w') : Calls P f args x.w fun e w'' => e = .returned v ∧ ∃ y : In (Ext W), w'' = y.w :=
  h.mono fun _ w' ⟨he, hw⟩ => ⟨he, ⟨w', Below.trans x.h (hw.mono (Below.size x.h))⟩, rfl⟩
end Go.Proofs.YtmhloapjadhifaaGreatDoor

namespace Go.Proofs.YtmhloapjadhifaaGreatDoor
set_option linter.unusedVariables false
set_option linter.unusedSimpArgs false
open Go Go.RowKit

section
variable {P : Program} {ops : Array Oper} {C : World → Prop} {G : World → World → Prop} {R : Tmp → Option (Value → World → Prop)} {E : (Tmp → Prop) → Act → Prop} {o : Oper} {rest : List Oper} {F : Tmp → Prop} {a : Act}
theorem walkR_skip (hw : Region.wanted o (yielded ops a.tmps) = false) (h : walkR P ops C G R E rest F (a.put o.dst undef)) : walkR P ops C G R E (o :: rest) F a :=
  ⟨fun h1 => (by rw [hw] at h1; cases h1), fun _ => h⟩
theorem walkR_plain {t : Tmp} (hw : Region.wanted o (yielded ops a.tmps) = true) (hd : o.dst = some t) (hr : R t = none) {x : Value} (hx : ∀ w, C w → Leans ops R F o a w → plainUpon x w ((execOp a.eval o).run P w)) (h : walkR P ops C G R E rest F (a.put (some t) x)) : walkR P ops C G R E (o :: rest) F a := by
  refine ⟨fun _ => ?_, fun h1 => by rw [hw] at h1; cases h1⟩
  unfold opDo
  simp only [hd, hr]
  exact ⟨x, hx, h⟩
theorem walkR_move {t : Tmp} {x : Operand} (hw : Region.wanted o (yielded ops a.tmps) = true) (hd : o.dst = some t) (ho : o.op = .move x) (hr : R t = none) (h : walkR P ops C G R E rest F (a.put (some t) (a.eval x))) : walkR P ops C G R E (o :: rest) F a :=
  walkR_plain hw hd hr (fun w _ _ => by rw [BigFrame.run_move x ho]; exact ⟨rfl, rfl⟩) h
theorem walkR_assign {t : Tmp} {x : Operand} (hw : Region.wanted o (yielded ops a.tmps) = true) (hd : o.dst = some t) (ho : o.op = .assign x) (hr : R t = none) (h : walkR P ops C G R E rest F (a.put (some t) (a.eval x))) : walkR P ops C G R E (o :: rest) F a :=
  walkR_plain hw hd hr (fun w _ _ => by rw [BigFrame.run_assign x ho]; exact ⟨rfl, rfl⟩) h
theorem walkR_rel {t : Tmp} {r : Value → World → Prop} (hw : Region.wanted o (yielded ops a.tmps) = true) (hd : o.dst = some t) (hr : R t = some r) (ht : t < a.tmps.size) (hx : ∀ w, C w → Leans ops R F o a w → relUpon P C G r w ((execOp a.eval o).run P w))
    (h : ∀ v, (∃ w, C w ∧ r v w) → walkR P ops C G R E rest (more F t) (a.put (some t) v)) : walkR P ops C G R E (o :: rest) F a := by
  refine ⟨fun _ => ?_, fun h1 => by rw [hw] at h1; cases h1⟩
  unfold opDo
  simp only [hd, hr]
  refine ⟨ht, hx, fun v ⟨w, hC, hK⟩ => h v ⟨w, hC, ?_⟩⟩
  have := hK t (.inl rfl) r hr
  rwa [eval_put_self a t v ht] at this
theorem Leans.get {w : World} (h : Leans ops R F o a w) (t : Tmp) (hF : F t) (hc : (o.looksAt ops).contains t = true) {r : Value → World → Prop} (hr : R t = some r) {v : Value} (hv : a.eval (.tmp t) = v) : r v w := by
  subst hv
  exact h t hF (by simpa using hc) r hr
end

/-- The table of relations. -/
def relTab : List (Nat × (Value → World → Prop)) → Tmp → Option (Value → World → Prop)
  | [], _ => none
  | (t, r) :: l, s => match Nat.beq s t with
    | true => some r
    | false => relTab l s

/-- Nothing that lies turns. -/
def Grows (w w' : World) : Prop := Below w.heap.size w w'
def GoesUp (r : Value → World → Prop) : Prop := ∀ v w w', Grows w w' → r v w → r v w'
theorem stable_nil (C : World → Prop) : Stable C Grows (relTab []) := fun s r h => by cases h
theorem stable_cons {C : World → Prop} {t : Nat} {r : Value → World → Prop} {l : List (Nat × (Value → World → Prop))} (hr : GoesUp r) (h : Stable C Grows (relTab l)) : Stable C Grows (relTab ((t, r) :: l)) := by
  intro s r' hs
  unfold relTab at hs
  split at hs
  · injection hs with hs
    subst hs
    exact fun v w w' _ _ hg hv => hr v w w' hg hv
  · exact h s r' hs

def isB (b : Bool) : Value → World → Prop := fun v _ => v = .bool b
theorem isB_up (b : Bool) : GoesUp (isB b) := fun _ _ _ _ h => h
theorem Ext.grown {W w w' : World} (h : Ext W w) (hg : Grows w w') : Ext W w' := Below.trans h (Below.mono hg (Below.size h))
theorem Grows.alloc (w : World) (o : Obj) : Grows w (w.alloc o) := (Below.refl _ _).alloc (Nat.le_refl _) o

/-- A callee's contract, in the walk. -/
theorem rel_call {P : Program} {f : FuncId} {args : Array Value} {W w : World} {r : Value → World → Prop} (hC : Ext W w) (h : Calls P f args w fun e w' => ∃ u, e = .returned u ∧ r u w' ∧ Below w.heap.size w w') :
    Calls P f args w fun e w'' => ∃ u, e = .returned u ∧ Ext W w'' ∧ Grows w w'' ∧ r u w'' :=
  h.mono fun _ _ ⟨u, he, hr, hb⟩ => ⟨u, he, hC.grown hb, hb, hr⟩
theorem ext_cell {W w : World} {b o : Nat} {v : Value} (h : W.cell? ⟨b, o, none⟩ = some v) (hl : b < W.heap.size) (hC : Ext W w) : w.cell? ⟨b, o, none⟩ = some v := (Below.cell (p := ⟨b, o, none⟩) hC hl).trans h
end Go.Proofs.YtmhloapjadhifaaGreatDoor

namespace Go.Proofs.YtmhloapjadhifaaGreatDoor
set_option linter.unusedVariables false
set_option linter.unusedSimpArgs false
open Go Go.RowKit

theorem BodyAt.lits {w : World} {v : Value} {xs : List Lt} (h : BodyAt w v xs) : LitsAt w v xs := by
  rcases h with h | ⟨b, off, cap, h1, h2, h3, h4, h5⟩
  · exact .inl h
  · refine .inr ⟨b, off, cap, h1, h2, h3, h4, fun i hi => ?_⟩
    rw [getElem!_pos xs i hi]
    exact h5 i hi
theorem LitsAt.body {w : World} {v : Value} {xs : List Lt} (h : LitsAt w v xs) : BodyAt w v xs := by
  rcases h with h | ⟨b, off, cap, h1, h2, h3, h4, h5⟩
  · exact .inl h
  · refine .inr ⟨b, off, cap, h1, h2, h3, h4, fun i hi => ?_⟩
    have := h5 i hi
    rw [getElem!_pos xs i hi] at this
    exact this

theorem bcell6 {w : World} {b : Nat} {u0 u1 u2 u3 u4 u5 : Value} {t : TypeId} (h : w.heap[b]? = some (.cells #[u0, u1, u2, u3, u4, u5] t (0, 0))) : w.cell? ⟨b, 0, none⟩ = some u0 ∧ w.cell? ⟨b, 1, none⟩ = some u1 ∧ w.cell? ⟨b, 2, none⟩ = some u2 ∧ w.cell? ⟨b, 3, none⟩ = some u3 ∧ w.cell? ⟨b, 4, none⟩ = some u4 ∧ w.cell? ⟨b, 5, none⟩ = some u5 :=
  ⟨by simp [World.cell?, h], by simp [World.cell?, h], by simp [World.cell?, h], by simp [World.cell?, h], by simp [World.cell?, h], by simp [World.cell?, h]⟩

/-- A list of literals, as a relation. -/
def isBody (xs : List Lt) : Value → World → Prop := fun v w => BodyAt w v xs
theorem isBody_up (xs : List Lt) : GoesUp (isBody xs) := fun _ _ _ hg h => BodyAt.below h hg

/-- What is wrong with a rule, beside those before it: 2 a body too long, 1 out of range, 8 a body not in order, 5 there already. -/
def ruleB (r : Ru) : Bool := vn r.name && (rankB r.rank (!r.strict) && (vn r.head.name && !r.body.any badL))
def ruleE (b : Bs) (r : Ru) (i : Nat) : Int := if 4 < r.body.length then 2 else if ruleB r = false then 1 else if decide (r.body = nrm r.body) = false then 8 else if posI (hasName r.name) b.rules < (i : Int) then 5 else 0

set_option maxHeartbeats 2000000 in
theorem valRule_any (b : Bs) (hb : BsOk b) (v : Value) (i : Nat) (hi : i < b.rules.length) (w : World) (hv : BaseAt w v b) :
    Calls Tryz.prog 66 #[v, .int .i64 (i : Int)] w fun e w' => e = .returned (.int .i64 (ruleE b b.rules[i] i)) ∧ Below w.heap.size w w' := by
  have HVW := hidIt hv
  obtain ⟨a1, a2, a3, c1, c2, c3, rfl, -, -, hlen, hcap, -, -, -, hr, -⟩ := hv.form
  obtain ⟨o1, o2, o3, o4⟩ := hb.2.1 _ (List.getElem_mem hi)
  obtain ⟨a2', c2', e1, -, -, hrow⟩ := RowIn.form hr
  injection e1 with e1 e2 e3
  subst e1 e3
  obtain ⟨bb, off, rfl, hbl, bv, d0, d1, d2, d3, d4, d5, hbody⟩ := hrow i hi
  have hiI : (i : Int) < (b.rules.length : Int) := by omega
  have hi0 : (0 : Int) ≤ (i : Int) := by omega
  have hl1 : b.rules.length ≤ 9223372036854775807 := by unfold maxLen at hcap; omega
  generalize hp : b.rules[i] = r at *
  obtain ⟨nm, st, rk, xs, ⟨hg, hs⟩⟩ := r
  simp only at d0 d1 d2 d3 d4 d5 o1 o2 o3 o4 hbody
  obtain ⟨ab, cb, rfl, hlb, hcb, -⟩ := hbody.form
  have hxl : xs.length ≤ 9223372036854775807 := by unfold maxLen at hcb; omega
  have hgr := bgrow w (.cells #[.slice a1 b.prems.length c1, .slice (some ⟨bb, off, none⟩) b.rules.length c2, .slice a3 b.proms.length c3] 26)
  have x0 := (hgr.cell (p := ⟨bb, _, none⟩) hbl).trans d0
  have x1 := (hgr.cell (p := ⟨bb, _, none⟩) hbl).trans d1
  have x2 := (hgr.cell (p := ⟨bb, _, none⟩) hbl).trans d2
  have x3 := (hgr.cell (p := ⟨bb, _, none⟩) hbl).trans d3
  have x4 := (hgr.cell (p := ⟨bb, _, none⟩) hbl).trans d4
  have x5 := (hgr.cell (p := ⟨bb, _, none⟩) hbl).trans d5
  have hbl2 := Nat.lt_of_lt_of_le hbl hgr.size
  have hg2 := bgrow2 w (.cells #[.slice a1 b.prems.length c1, .slice (some ⟨bb, off, none⟩) b.rules.length c2, .slice a3 b.proms.length c3] 26) (.cells #[.string nm, .bool st, .int .i64 rk, .slice ab xs.length cb, .bool hg, .string hs] 66)
  have HB0 := hidIt hg2
  have HV0 := hidIt (HVW.out.below hg2)
  have HY0 := hidIt (hbody.below hg2)
  have HK0 := hidIt (blk_kept2 (heap_alloc_new w (.cells #[.slice a1 b.prems.length c1, .slice (some ⟨bb, off, none⟩) b.rules.length c2, .slice a3 b.proms.length c3] 26)) (bgrow _ (.cells #[.string nm, .bool st, .int .i64 rk, .slice ab xs.length cb, .bool hg, .string hs] 66)))
  have HP0 := hidIt (heap_alloc_new (w.alloc (.cells #[.slice a1 b.prems.length c1, .slice (some ⟨bb, off, none⟩) b.rules.length c2, .slice a3 b.proms.length c3] 26)) (.cells #[.string nm, .bool st, .int .i64 rk, .slice ab xs.length cb, .bool hg, .string hs] 66))
  rw [size_alloc] at HP0
  have HO4 := hidIt o4
  have HE : Hid (ruleE b ⟨nm, st, rk, xs, ⟨hg, hs⟩⟩ i = if 4 < xs.length then 2 else if (vn nm && (rankB rk (!st) && (vn hs && !xs.any badL))) = false then 1 else if decide (xs = nrm xs) = false then 8 else if posI (hasName nm) b.rules < (i : Int) then 5 else 0) := by show _ = _; rfl
  generalize ruleE b ⟨nm, st, rk, xs, ⟨hg, hs⟩⟩ i = E at *
  clear hrow hr hv hgr hg2 hbl d0 d1 d2 d3 d4 d5 HVW e2 hbody o4
  by_cases h4 : 4 < xs.length
  case pos =>
    have h4I : (4 : Int) < (xs.length : Int) := by omega
    have HE2 : Hid (E = 2) := by show _ = _; rw [HE.out, if_pos h4]
    clear h4 HE
    go_enter Tryz.func66, Tryz.ntmps66
    go_wp2_with fail
    go_ret
    exact ⟨ret_int HE2.out.symm, HB0.out⟩
  case neg =>
  have h4I : ¬ (4 : Int) < (xs.length : Int) := by omega
  have HX4 : Hid (xs.length ≤ 1000000) := (by omega : xs.length ≤ 1000000)
  have HE2 : Hid (E = if (vn nm && (rankB rk (!st) && (vn hs && !xs.any badL))) = false then 1 else if decide (xs = nrm xs) = false then 8 else if posI (hasName nm) b.rules < (i : Int) then 5 else 0) := by show _ = _; rw [HE.out, if_neg h4]
  clear h4 HE
  go_enter Tryz.func66, Tryz.ntmps66
  go_wp2_with fail
  clear x0 x1 x2 x3 x4 x5 hbl2 h4I
  generalize ((w.alloc (.cells #[.slice a1 b.prems.length c1, .slice (some ⟨bb, off, none⟩) b.rules.length c2, .slice a3 b.proms.length c3] 26)).alloc _) = w0 at *
  refine (validName_any nm _ o1).mono ?_
  rintro e w1 ⟨rfl, rfl⟩
  obtain ⟨p0, p1, p2, p3, p4, p5⟩ := bcell6 HP0.out
  obtain ⟨k0, k1, k2⟩ := bcell3 HK0.out
  have lp := lt_of_block HP0.out
  have lk := lt_of_block HK0.out
  cases h1 : vn nm
  · go_wp2_with fail
    go_ret
    exact ⟨ret_int (by rw [HE2.out, h1]; rfl), HB0.out⟩
  go_wp2_with fail
  refine (rankFits_any rk _ o2 _).mono ?_
  rintro e w1 ⟨rfl, rfl⟩
  cases h2 : rankB rk (!st)
  · go_wp2_with fail
    go_ret
    exact ⟨ret_int (by rw [HE2.out, h1, h2]; rfl), HB0.out⟩
  go_wp2_with fail
  refine (valid_any hg hs _ o3).mono ?_
  rintro e w1 ⟨rfl, hb1⟩
  have HB1 := hidIt (HB0.out.trans (hb1.mono HB0.out.size))
  have HV1 := hidIt (HV0.out.below hb1)
  have HY1 := hidIt (HY0.out.below hb1)
  have HK1 := hidIt (blk_kept2 HK0.out hb1)
  have HP1 := hidIt (blk_kept2 HP0.out hb1)
  clear hb1 HB0 HV0 HY0 HK0 HP0 p0 p1 p2 p3 p4 p5 k0 k1 k2 lp lk
  obtain ⟨p0, p1, p2, p3, p4, p5⟩ := bcell6 HP1.out
  obtain ⟨k0, k1, k2⟩ := bcell3 HK1.out
  have lp := lt_of_block HP1.out
  have lk := lt_of_block HK1.out
  cases h3 : vn hs
  · go_wp2_with fail
    go_ret
    exact ⟨ret_int (by rw [HE2.out, h1, h2, h3]; rfl), HB1.out⟩
  go_wp2_with fail
  refine (anyLit_any xs HO4.out _ _ HY1.out).mono ?_
  rintro e w2 ⟨rfl, hb2⟩
  have HB2 := hidIt (HB1.out.trans (hb2.mono HB1.out.size))
  have HV2 := hidIt (HV1.out.below hb2)
  have HY2 := hidIt (HY1.out.below hb2)
  have HK2 := hidIt (blk_kept2 HK1.out hb2)
  have HP2 := hidIt (blk_kept2 HP1.out hb2)
  clear hb2 HB1 HV1 HY1 HK1 HP1 p0 p1 p2 p3 p4 p5 k0 k1 k2 lp lk
  obtain ⟨p0, p1, p2, p3, p4, p5⟩ := bcell6 HP2.out
  obtain ⟨k0, k1, k2⟩ := bcell3 HK2.out
  have lp := lt_of_block HP2.out
  have lk := lt_of_block HK2.out
  cases h5 : xs.any badL
  case true =>
    go_wp2_with fail
    go_ret
    exact ⟨ret_int (by rw [HE2.out, h1, h2, h3, h5]; rfl), HB2.out⟩
  have HE3 : Hid (E = if decide (xs = nrm xs) = false then 8 else if posI (hasName nm) b.rules < (i : Int) then 5 else 0) := by show _ = _; rw [HE2.out, h1, h2, h3, h5]; rfl
  clear HE2
  go_wp2_with fail
  have X3 : ∀ wx, Ext w2 wx → wx.cell? ⟨w.heap.size + 1, 3, none⟩ = some (.slice ab xs.length cb) := fun wx hC => ext_cell p3 lp hC
  have HN : Hid (∀ wx, Ext w2 wx → Calls Tryz.prog 97 #[.slice ab xs.length cb] wx fun e w'' => ∃ u, e = .returned u ∧ Ext w2 w'' ∧ Grows wx w'' ∧ isBody (nrm xs) u w'') := fun wx hC =>
    rel_call hC ((normal_any _ xs wx (HY2.out.below hC).lits HX4.out).mono fun e w'' ⟨v', he, ho, hb⟩ => ⟨v', he, ho.lits.body, hb⟩)
  have HQ : Hid (∀ wx u, Ext w2 wx → BodyAt wx u (nrm xs) → Calls Tryz.prog 123 #[.slice ab xs.length cb, u] wx fun e w'' => ∃ u, e = .returned u ∧ Ext w2 w'' ∧ Grows wx w'' ∧ isB (decide (xs = nrm xs)) u w'') := fun wx u hC hu =>
    rel_call hC ((eqLits_any xs (nrm xs) _ u wx (HY2.out.below hC) hu).mono fun e w'' ⟨he, hb⟩ => ⟨_, he, rfl, hb⟩)
  have HD : Hid (∀ q : Bool, decide (xs = nrm xs) = q → E = if q = false then 8 else if posI (hasName nm) b.rules < (i : Int) then 5 else 0) := fun q hq => by rw [HE3.out, hq]
  clear HE3
  generalize hq : decide (xs = nrm xs) = q at *
  have HDq := hidIt (HD.out q rfl)
  clear HD hq
  haveI : Nonempty (In (Ext w2)) := Ext.nonempty w2
  refine wp_region_rel (Ext w2) Grows (relTab [(40, isBody (nrm xs)), (41, isB q)]) (by kernel_rfl) (by kernel_rfl) (by kernel_rfl) (stable_cons (isBody_up _) (stable_cons (isB_up _) (stable_nil _))) (Ext.start w2) ?_
  repeat (
    refine' walkR_plain (by kernel_rfl) rfl rfl (fun wx hC hL => ?_) ?_
    rotate_left
    · (have hlw := Nat.lt_of_lt_of_le lp (Below.size hC)
       simp only [X3 wx hC, hlw, go_sem]; first | done | (go_simp; exact ⟨rfl, rfl⟩))
    simp only [Act.put, List.setIfInBounds_toArray, List.set_cons_zero, List.set_cons_succ])
  refine walkR_rel (by kernel_rfl) rfl rfl (of_decide_eq_true (by kernel_rfl)) (fun wx hC hL => ?_) (fun v hv => ?_)
  · go_simp
    exact HN.out wx hC
  obtain ⟨_, _, -⟩ := hv
  simp only [Act.put, List.setIfInBounds_toArray, List.set_cons_zero, List.set_cons_succ]
  refine walkR_rel (by kernel_rfl) rfl rfl (of_decide_eq_true (by kernel_rfl)) (fun wx hC hL => ?_) (fun v hv => ?_)
  · have hbv : BodyAt wx v (nrm xs) := hL.get 40 (by simp [more]) (by kernel_rfl) rfl rfl
    go_simp
    exact HQ.out wx v hC hbv
  obtain ⟨_, _, rfl⟩ := hv
  simp only [Act.put, List.setIfInBounds_toArray, List.set_cons_zero, List.set_cons_succ]
  repeat (
    refine' walkR_plain (by kernel_rfl) rfl rfl (fun wx hC hL => ?_) ?_
    rotate_left
    · (have hlw := Nat.lt_of_lt_of_le lp (Below.size hC)
       simp only [X3 wx hC, hlw, go_sem]; first | done | (go_simp; exact ⟨rfl, rfl⟩))
    simp only [Act.put, List.setIfInBounds_toArray, List.set_cons_zero, List.set_cons_succ])
  refine fun w3 hC3 _ => ?_
  have HB3 := hidIt (HB2.out.trans (Below.mono hC3 HB2.out.size))
  have HV3 := hidIt (HV2.out.below hC3)
  have HK3 := hidIt (blk_kept2 HK2.out hC3)
  have HP3 := hidIt (blk_kept2 HP2.out hC3)
  clear hC3 X3 HN HQ HB2 HV2 HY2 HK2 HP2 p0 p1 p2 p3 p4 p5 k0 k1 k2 lp lk
  obtain ⟨p0, p1, p2, p3, p4, p5⟩ := bcell6 HP3.out
  obtain ⟨k0, k1, k2⟩ := bcell3 HK3.out
  have lp := lt_of_block HP3.out
  have lk := lt_of_block HK3.out
  cases q
  · go_wp2_with fail
    go_ret
    exact ⟨ret_int (by rw [HDq.out]; rfl), HB3.out⟩
  have HF : Hid (E = if posI (hasName nm) b.rules < (i : Int) then 5 else 0) := by show _ = _; rw [HDq.out]; rfl
  clear HDq
  go_wp2_with fail
  refine (bfind_any b _ nm _ HV3.out).mono ?_
  rintro e w4 ⟨rfl, hb4⟩
  have HB4 := hidIt (HB3.out.trans (hb4.mono HB3.out.size))
  clear hb4 p0 p1 p2 p3 p4 p5 k0 k1 k2 lp lk HV3 HK3 HP3
  generalize posI (hasName nm) b.rules = z at *
  by_cases hz : z < (i : Int)
  · have hF : E = 5 := by rw [HF.out, if_pos hz]
    clear HF
    go_wp2_with fail
    go_ret
    exact ⟨ret_int hF.symm, HB4.out⟩
  · have hF : E = 0 := by rw [HF.out, if_neg hz]
    clear HF
    go_wp2_with fail
    go_ret
    exact ⟨ret_int hF.symm, HB4.out⟩

end Go.Proofs.YtmhloapjadhifaaGreatDoor

namespace Go.Proofs.YtmhloapjadhifaaGreatDoor
set_option linter.unusedVariables false
set_option linter.unusedSimpArgs false
open Go Go.RowKit

theorem keepB {w w' : World} {b R : Nat} {o : Obj} (hk : w.heap[b]? = some o) (hg : w.grownBy w' (some R)) (hne : b ≠ R) : w'.heap[b]? = some o := (hg.block b (lt_of_block hk) (by intro e; injection e with e; exact hne e)).trans hk
theorem keepS {w : World} {b : Nat} {o : Obj} {p : Addr} {u : Value} (hk : w.heap[b]? = some o) (hne : b ≠ p.block) : (w.setCell p u).heap[b]? = some o := (Below.heap_setCell w p u b hne).trans hk
theorem setB {w : World} {b i : Nat} {cs : Array Value} {t : TypeId} (u : Value) (h : w.heap[b]? = some (.cells cs t (0, 0))) : (w.setCell ⟨b, i, none⟩ u).heap[b]? = some (.cells (cs.setIfInBounds i u) t (0, 0)) := by
  have hlt := lt_of_block h
  have h' : w.heap[b] = .cells cs t (0, 0) := by simpa [Array.getElem?_eq_getElem hlt] using h
  show (w.heap.modify b _)[b]? = _
  rw [Array.getElem?_eq_getElem (by simpa using hlt), Array.getElem_modify_self, h']
  rfl
theorem RdAt.set (L R : Nat) {w : World} {r : Rd} {b i : Nat} {u : Value} (h : RdAt w L R r) (hb : L ≤ b) : RdAt (w.setCell ⟨b, i, none⟩ u) L R r := h.setCell (p := ⟨b, i, none⟩) hb u
theorem kcell {w : World} {b : Nat} {cs : Array Value} {t : TypeId} (h : w.heap[b]? = some (.cells cs t (0, 0))) (i : Nat) (hi : i < cs.size) : w.cell? ⟨b, i, none⟩ = some cs[i] := by simp [World.cell?, h, hi]
theorem only_self {a w : World} {R : Nat} (h : a.grownBy w (some R)) {b : Nat} (hb : a.heap.size ≤ b) (i : Nat) (u : Value) : a.grownBy (w.setCell ⟨b, i, none⟩ u) (some R) := only_setCell h (p := ⟨b, i, none⟩) (.inr hb) u
theorem RdAt.wss {w : World} {L R : Nat} {r : Rd} (h : RdAt w L R r) : r.ws.length ≤ maxLen := by
  obtain ⟨-, -, a, cap, hk, h2, h3, h4⟩ := h
  omega
theorem RdAt.look {w : World} {L R : Nat} {r : Rd} (h : RdAt w L R r) : ∃ (a : Option Addr) (cap : Nat), w.cell? ⟨R, 0, none⟩ = some (.slice a r.ws.length cap) ∧ w.cell? ⟨R, 1, none⟩ = some (.bool r.bad) := by
  obtain ⟨-, -, a, cap, hk, h2, h3, h4⟩ := h
  exact ⟨a, cap, cell_two0 hk, cell_two1 hk⟩

set_option maxRecDepth 100000 in
set_option maxHeartbeats 2000000 in
theorem rprem_any (B L R : Nat) (k : Int) (r : Rd) (w : World) (h : RdAt w L R r) (hw : WsOk r.ws) (hE : EnvUp B w) (hB : B ≤ R) :
    Calls Tryz.prog 138 #[.pointer (some ⟨R, 0, none⟩), .int .i64 k] w fun e w' => e = .returned (.agg #[.bool (rdPrem k r).1.lit.neg, .string (rdPrem k r).1.lit.name, .int .i64 (rdPrem k r).1.kind, .int .i64 (rdPrem k r).1.rank, .string (rdPrem k r).1.src]) ∧ RdAt w' L R (rdPrem k r).2 ∧ w.grownBy w' (some R) := by
  have hL := h.1
  have hR := h.2.1
  have HA1 : Hid (rdPrem k r = (⟨(rdPrem1 k r).1, k, (rdPrem2 k r).1, (rdPrem3 k r).1⟩, (rdPrem3 k r).2)) := by show _ = _; rfl
  have HA3 : Hid (rdPrem3 k r = if (rdPrem2 k r).2.ws.length = 0 then (nilT, (rdPrem2 k r).2) else rdName (rdWord (rdPrem2 k r).2) nilT) := by show _ = _; rfl
  have HA2 : Hid (rdPrem2 k r = if k = 2 then rdRank (rdPrem1 k r).2 nilT else (0, (rdPrem1 k r).2)) := by show _ = _; rfl
  have hw1 : WsOk (rdPrem1 k r).2.ws := hw.tail
  have HC1 : Hid (∀ wx : World, RdAt wx L R ⟨r.ws, r.bad || !(k != 0)⟩ → Calls Tryz.prog 169 #[.pointer (some ⟨R, 0, none⟩), .string ⟨#[]⟩] wx fun e w' => e = .returned (.agg #[.bool (rdPrem1 k r).1.neg, .string (rdPrem1 k r).1.name]) ∧ RdAt w' L R (rdPrem1 k r).2 ∧ wx.grownBy w' (some R)) := fun wx hx => rlit_any L R ⟨r.ws, r.bad || !(k != 0)⟩ nilT wx hx hw
  have hw2 : WsOk (rdPrem2 k r).2.ws := by
    rw [HA2.out]
    split
    · exact hw1.tail
    · exact hw1
  generalize rdPrem k r = A at *
  generalize rdPrem3 k r = A3 at *
  generalize rdPrem2 k r = A2 at *
  obtain ⟨rank, r2⟩ := A2
  have HC2 : Hid (k = 2 → ∀ wx : World, RdAt wx L R (rdPrem1 k r).2 → EnvUp B wx → Calls Tryz.prog 168 #[.pointer (some ⟨R, 0, none⟩), .string ⟨#[]⟩] wx fun e w' => e = .returned (.int .i64 rank) ∧ RdAt w' L R r2 ∧ wx.grownBy w' (some R)) := fun hk wx hx hE => by
    have := rrank_any B L R (rdPrem1 k r).2 nilT wx hx hw1 hE hB
    have e := HA2.out
    rw [if_pos hk] at e
    rw [← e] at this
    exact this
  have HC2n : Hid (k ≠ 2 → rank = 0 ∧ r2 = (rdPrem1 k r).2) := fun hk => by
    have e := HA2.out
    rw [if_neg hk] at e
    exact Prod.mk.inj e
  generalize rdPrem1 k r = A1 at *
  obtain ⟨⟨yn, ys⟩, r1⟩ := A1
  obtain ⟨src, r3⟩ := A3
  simp only at HC1 HC2 HC2n HA3 hw2
  clear HA2 hw1
  have HC4 : Hid (r2.ws.length ≠ 0 → ∀ wx : World, RdAt wx L R (rdWord r2) → Calls Tryz.prog 167 #[.pointer (some ⟨R, 0, none⟩), .string ⟨#[]⟩] wx fun e w' => e = .returned (.string src) ∧ RdAt w' L R r3 ∧ wx.grownBy w' (some R)) := fun hk wx hx => by
    have := rname_any L R (rdWord r2) nilT wx hx hw2.tail
    have e := HA3.out
    rw [if_neg hk] at e
    rw [← e] at this
    exact this
  have HC4n : Hid (r2.ws.length = 0 → src = ⟨#[]⟩ ∧ r3 = r2) := fun hk => by
    have e := HA3.out
    rw [if_pos hk] at e
    exact Prod.mk.inj e
  clear HA3 hw2
  have H := hidIt (h.alloc (.cells #[.bool false, .string ⟨#[]⟩, .int .i64 0, .int .i64 0, .string ⟨#[]⟩] 64))
  have HEn := hidIt (hE.kept (only_alloc (only_refl w none) (.cells #[.bool false, .string ⟨#[]⟩, .int .i64 0, .int .i64 0, .string ⟨#[]⟩] 64)) (fun g e => by cases e))
  have HG := hidIt (only_alloc (only_refl w (some R)) (.cells #[.bool false, .string ⟨#[]⟩, .int .i64 0, .int .i64 0, .string ⟨#[]⟩] 64))
  have HK := hidIt (heap_alloc_new w (.cells #[.bool false, .string ⟨#[]⟩, .int .i64 0, .int .i64 0, .string ⟨#[]⟩] 64))
  have hk0 : w.heap.size ≠ R := by omega
  clear h hw hE
  go_enter Tryz.func138, Tryz.ntmps138
  go_wp2_with fail
  generalize (w.alloc (.cells #[.bool false, .string ⟨#[]⟩, .int .i64 0, .int .i64 0, .string ⟨#[]⟩] 64)) = w0 at *
  refine (expect_any L R r (k != 0) _ H.out).mono ?_
  rintro e w1 ⟨rfl, hr1, hg1⟩
  have HR1 := hidIt hr1
  have HE1 := hidIt (HEn.out.kept hg1 (fun g e => by injection e with e; omega))
  have HG1 := hidIt (only_trans HG.out hg1)
  have HK1 := hidIt (keepB HK.out hg1 hk0)
  clear hr1 hg1 H HEn HG HK
  go_wp2_with fail
  refine (HC1.out _ HR1.out).mono ?_
  rintro e w2 ⟨rfl, hr2, hg2⟩
  have HR2 := hidIt hr2
  have HE2 := hidIt (HE1.out.kept hg2 (fun g e => by injection e with e; omega))
  have HG2 := hidIt (only_trans HG1.out hg2)
  have HK2 := hidIt (keepB HK1.out hg2 hk0)
  clear hr2 hg2 HR1 HE1 HG1 HK1
  have HP3 := hidIt (heap_alloc_new w2 (.cells #[.bool yn, .string ys, .int .i64 k, .int .i64 0, .string ⟨#[]⟩] 64))
  have HR3 := hidIt (HR2.out.alloc (.cells #[.bool yn, .string ys, .int .i64 k, .int .i64 0, .string ⟨#[]⟩] 64))
  have HE3 := hidIt (HE2.out.kept (only_alloc (only_refl w2 none) (.cells #[.bool yn, .string ys, .int .i64 k, .int .i64 0, .string ⟨#[]⟩] 64)) (fun g e => by cases e))
  have HG3 := hidIt (only_alloc HG2.out (.cells #[.bool yn, .string ys, .int .i64 k, .int .i64 0, .string ⟨#[]⟩] 64))
  have HK3 := hidIt (blk_kept2 HK2.out (bgrow w2 (.cells #[.bool yn, .string ys, .int .i64 k, .int .i64 0, .string ⟨#[]⟩] 64)))
  have hww : w.heap.size < w2.heap.size := lt_of_block HK2.out
  have hk1 : w2.heap.size ≠ R := by omega
  have hk2 : w.heap.size ≠ w2.heap.size := by omega
  clear HE2
  by_cases hkk : k = 2
  case pos =>
    have HC2' := hidIt (HC2.out hkk)
    subst hkk
    clear HC2 HC2n HR2 HK2 HG2
    go_wp2_with fail
    generalize (w2.alloc (.cells #[.bool yn, .string ys, .int .i64 2, .int .i64 0, .string ⟨#[]⟩] 64)) = w3 at *
    refine (HC2'.out _ HR3.out HE3.out).mono ?_
    rintro e w4 ⟨rfl, hr4, hg4⟩
    have hp4 := keepB HP3.out hg4 hk1
    have hk4 := keepB HK3.out hg4 hk0
    have HG4 := hidIt (only_trans HG3.out hg4)
    clear hg4 HR3 HE3 HG3 HK3 HP3
    obtain ⟨p0, p1, p2, p3, p4⟩ := bcell5 hp4
    obtain ⟨z0, z1, z2, z3, z4⟩ := bcell5 hk4
    have pf3 := free_any hp4 3
    have pf4 := free_any hp4 4
    have hl4 := lt_of_block hp4
    have zf0 := free_any hk4 0
    have zf1 := free_any hk4 1
    have zf2 := free_any hk4 2
    have zf3 := free_any hk4 3
    have zf4 := free_any hk4 4
    have hl0 := lt_of_block hk4
    have hlR := hr4.lt
    have hm4 := hr4.wss
    have HR4 := hidIt hr4
    have HP4 := hidIt hp4
    have HK4 := hidIt hk4
    obtain ⟨la, lc, c0, -⟩ := hr4.look
    clear hk4 hr4 hp4
    have hm5 : r2.ws.length ≤ 9223372036854775807 := by unfold maxLen at hm4; omega
    clear hm4
    by_cases hws : r2.ws.length = 0
    case pos =>
      obtain ⟨rfl, rfl⟩ := HC4n.out hws
      rw [hws] at c0
      go_wp2_with fail
      refine bodyPost_ret (v := .agg #[.bool yn, .string ys, .int .i64 2, .int .i64 rank, .string ⟨#[]⟩]) (by simp [results, Tryz.results138, go_sem, z0, z1, z2, z3, z4, hk2, p0, p1, p2, p3, p4, hl4, hl0]) rfl ?_
      rw [HA1.out]
      refine ⟨rfl, ?_, ?_⟩
      · repeat refine RdAt.set L R ?_ (by omega)
        exact HR4.out
      · repeat refine only_self ?_ (by omega) _ _
        exact HG4.out
    case neg =>
      have HN := hidIt (HC4.out hws)
      have hpos : (0 : Int) < (r2.ws.length : Int) := by omega
      clear HC4 HC4n hws
      go_wp2_with fail
      have HR5 := hidIt (HR4.out.setCell (p := ⟨w2.heap.size, 3, none⟩) (by show L ≤ w2.heap.size; omega) (.int .i64 rank))
      have HG5 := hidIt (only_self (HG4.out) (b := w2.heap.size) (by omega) 3 (.int .i64 rank))
      have HP5 : Hid ((w4.setCell ⟨w2.heap.size, 3, none⟩ (.int .i64 rank)).heap[w2.heap.size]? = some (.cells #[.bool yn, .string ys, .int .i64 2, .int .i64 rank, .string ⟨#[]⟩] 64 (0, 0))) := hidIt (setB (.int .i64 rank) HP4.out)
      have HK5 := hidIt (keepS (p := ⟨w2.heap.size, 3, none⟩) (u := .int .i64 rank) HK4.out hk2)
      clear HR4 HG4 HP4 HK4 p0 p1 p2 p3 p4 z0 z1 z2 z3 z4 pf3 pf4 zf0 zf1 zf2 zf3 zf4 c0 hl4 hl0 hlR
      generalize (w4.setCell ⟨w2.heap.size, 3, none⟩ (.int .i64 rank)) = w5 at *
      refine (word_any L R r2 _ HR5.out).mono ?_
      rintro e w6 ⟨rfl, hr6, hg6⟩
      have HR6 := hidIt hr6
      have HG6 := hidIt (only_trans HG5.out hg6)
      have HK6 := hidIt (keepB HK5.out hg6 hk0)
      have HP6 := hidIt (keepB HP5.out hg6 hk1)
      clear hr6 hg6 HR5 HG5 HK5 HP5
      go_wp2_with fail
      refine (HN.out _ HR6.out).mono ?_
      rintro e w7 ⟨rfl, hr7, hg7⟩
      have hp7 := keepB HP6.out hg7 hk1
      have hk7 := keepB HK6.out hg7 hk0
      have HR7 := hidIt hr7
      have HG7 := hidIt (only_trans HG6.out hg7)
      clear hr7 hg7 HR6 HG6 HK6 HP6
      obtain ⟨p0, p1, p2, p3, p4⟩ := bcell5 hp7
      obtain ⟨z0, z1, z2, z3, z4⟩ := bcell5 hk7
      have pf4 := free_any hp7 4
      have zf0 := free_any hk7 0
      have zf1 := free_any hk7 1
      have zf2 := free_any hk7 2
      have zf3 := free_any hk7 3
      have zf4 := free_any hk7 4
      have hl4 := lt_of_block hp7
      have hl0 := lt_of_block hk7
      clear hp7 hk7
      go_wp2_with fail
      refine bodyPost_ret (v := .agg #[.bool yn, .string ys, .int .i64 2, .int .i64 rank, .string src]) (by simp [results, Tryz.results138, go_sem, z0, z1, z2, z3, z4, hk2, p0, p1, p2, p3, p4, hl4, hl0]) rfl ?_
      rw [HA1.out]
      refine ⟨rfl, ?_, ?_⟩
      · repeat refine RdAt.set L R ?_ (by omega)
        exact HR7.out
      · repeat refine only_self ?_ (by omega) _ _
        exact HG7.out
  case neg =>
    obtain ⟨rfl, rfl⟩ := HC2n.out hkk
    clear HC2 HC2n
    have hr4 := HR2.out
    have hk4 := HK2.out
    clear HE3
    obtain ⟨z0, z1, z2, z3, z4⟩ := bcell5 hk4
    have zf0 := free_any hk4 0
    have zf1 := free_any hk4 1
    have zf2 := free_any hk4 2
    have zf3 := free_any hk4 3
    have zf4 := free_any hk4 4
    have hl0 := lt_of_block hk4
    have hlR := hr4.lt
    have hm4 := hr4.wss
    have HR4 := HR2
    have HG4 := HG2
    obtain ⟨la, lc, c0, -⟩ := hr4.look
    clear hk4 hr4
    have hm5 : r2.ws.length ≤ 9223372036854775807 := by unfold maxLen at hm4; omega
    clear hm4
    by_cases hws : r2.ws.length = 0
    case pos =>
      obtain ⟨rfl, rfl⟩ := HC4n.out hws
      rw [hws] at c0
      go_wp2_with fail
      refine bodyPost_ret (v := .agg #[.bool yn, .string ys, .int .i64 k, .int .i64 0, .string ⟨#[]⟩]) (by simp [results, Tryz.results138, go_sem, z0, z1, z2, z3, z4, hk2, hl0]) rfl ?_
      rw [HA1.out]
      refine ⟨rfl, ?_, ?_⟩
      · refine RdAt.alloc ?_ _
        repeat refine RdAt.set L R ?_ (by omega)
        exact HR4.out
      · refine only_alloc ?_ _
        repeat refine only_self ?_ (by omega) _ _
        exact HG4.out
    case neg =>
      have HN := hidIt (HC4.out hws)
      have hpos : (0 : Int) < (r2.ws.length : Int) := by omega
      clear HC4 HC4n hws
      go_wp2_with fail
      have HR5 := HR3
      have HG5 := HG3
      have HP5 := HP3
      have HK5 := HK3
      clear HR3 HG3 HP3 HK3 HR4 HG4 HR2 HG2 HK2 z0 z1 z2 z3 z4 zf0 zf1 zf2 zf3 zf4 c0 hl0 hlR
      generalize (w2.alloc (.cells #[.bool yn, .string ys, .int .i64 k, .int .i64 0, .string ⟨#[]⟩] 64)) = w5 at *
      refine (word_any L R r2 _ HR5.out).mono ?_
      rintro e w6 ⟨rfl, hr6, hg6⟩
      have HR6 := hidIt hr6
      have HG6 := hidIt (only_trans HG5.out hg6)
      have HK6 := hidIt (keepB HK5.out hg6 hk0)
      have HP6 := hidIt (keepB HP5.out hg6 hk1)
      clear hr6 hg6 HR5 HG5 HK5 HP5
      go_wp2_with fail
      refine (HN.out _ HR6.out).mono ?_
      rintro e w7 ⟨rfl, hr7, hg7⟩
      have hp7 := keepB HP6.out hg7 hk1
      have hk7 := keepB HK6.out hg7 hk0
      have HR7 := hidIt hr7
      have HG7 := hidIt (only_trans HG6.out hg7)
      clear hr7 hg7 HR6 HG6 HK6 HP6
      obtain ⟨p0, p1, p2, p3, p4⟩ := bcell5 hp7
      obtain ⟨z0, z1, z2, z3, z4⟩ := bcell5 hk7
      have pf4 := free_any hp7 4
      have zf0 := free_any hk7 0
      have zf1 := free_any hk7 1
      have zf2 := free_any hk7 2
      have zf3 := free_any hk7 3
      have zf4 := free_any hk7 4
      have hl4 := lt_of_block hp7
      have hl0 := lt_of_block hk7
      clear hp7 hk7
      go_wp2_with fail
      refine bodyPost_ret (v := .agg #[.bool yn, .string ys, .int .i64 k, .int .i64 0, .string src]) (by simp [results, Tryz.results138, go_sem, z0, z1, z2, z3, z4, hk2, p0, p1, p2, p3, p4, hl4, hl0]) rfl ?_
      rw [HA1.out]
      refine ⟨rfl, ?_, ?_⟩
      · repeat refine RdAt.set L R ?_ (by omega)
        exact HR7.out
      · repeat refine only_self ?_ (by omega) _ _
        exact HG7.out
end Go.Proofs.YtmhloapjadhifaaGreatDoor

namespace Go.Proofs.YtmhloapjadhifaaGreatDoor
set_option linter.unusedVariables false
set_option linter.unusedSimpArgs false
open Go Go.RowKit

set_option maxRecDepth 100000 in
set_option maxHeartbeats 2000000 in
theorem rprom_any (B L R : Nat) (r : Rd) (w : World) (h : RdAt w L R r) (hw : WsOk r.ws) (hE : EnvUp B w) (hB : B ≤ R) :
    Calls Tryz.prog 137 #[.pointer (some ⟨R, 0, none⟩)] w fun e w' => e = .returned (.agg #[.string (rdProm r).1.rule, .int .i64 (rdProm r).1.rank, .bool (rdProm r).1.lit.neg, .string (rdProm r).1.lit.name]) ∧ RdAt w' L R (rdProm r).2 ∧ w.grownBy w' (some R) := by
  have hL := h.1
  have hR := h.2.1
  have HA : Hid (rdProm r = (⟨(rdName r nilT).1, (rdProm1 r).1, (rdLit (rdWord (rdProm1 r).2) nilT).1⟩, (rdLit (rdWord (rdProm1 r).2) nilT).2)) := by show _ = _; rfl
  have hw1 : WsOk (rdName r nilT).2.ws := hw.tail
  have hw2 : WsOk (rdProm1 r).2.ws := hw1.tail
  have HC1 : Hid (∀ wx : World, RdAt wx L R r → Calls Tryz.prog 167 #[.pointer (some ⟨R, 0, none⟩), .string ⟨#[]⟩] wx fun e w' => e = .returned (.string (rdName r nilT).1) ∧ RdAt w' L R (rdName r nilT).2 ∧ wx.grownBy w' (some R)) := fun wx hx => rname_any L R r nilT wx hx hw
  have HC2 : Hid (∀ wx : World, RdAt wx L R (rdName r nilT).2 → EnvUp B wx → Calls Tryz.prog 168 #[.pointer (some ⟨R, 0, none⟩), .string ⟨#[]⟩] wx fun e w' => e = .returned (.int .i64 (rdProm1 r).1) ∧ RdAt w' L R (rdProm1 r).2 ∧ wx.grownBy w' (some R)) := fun wx hx hE => rrank_any B L R (rdName r nilT).2 nilT wx hx hw1 hE hB
  have HC3 : Hid (∀ wx : World, RdAt wx L R (rdWord (rdProm1 r).2) → Calls Tryz.prog 169 #[.pointer (some ⟨R, 0, none⟩), .string ⟨#[]⟩] wx fun e w' => e = .returned (.agg #[.bool (rdLit (rdWord (rdProm1 r).2) nilT).1.neg, .string (rdLit (rdWord (rdProm1 r).2) nilT).1.name]) ∧ RdAt w' L R (rdLit (rdWord (rdProm1 r).2) nilT).2 ∧ wx.grownBy w' (some R)) := fun wx hx => rlit_any L R (rdWord (rdProm1 r).2) nilT wx hx hw2.tail
  generalize rdProm r = A at *
  generalize rdLit (rdWord (rdProm1 r).2) nilT = A3 at *
  generalize rdProm1 r = A2 at *
  generalize rdName r nilT = A1 at *
  obtain ⟨⟨yn, ys⟩, r3⟩ := A3
  obtain ⟨rank, r2⟩ := A2
  obtain ⟨nm, r1⟩ := A1
  simp only at HC1 HC2 HC3 HA
  clear hw1 hw2
  have H := hidIt (h.alloc (.cells #[.string ⟨#[]⟩, .int .i64 0, .bool false, .string ⟨#[]⟩] 68))
  have HEn := hidIt (hE.kept (only_alloc (only_refl w none) (.cells #[.string ⟨#[]⟩, .int .i64 0, .bool false, .string ⟨#[]⟩] 68)) (fun g e => by cases e))
  have HG := hidIt (only_alloc (only_refl w (some R)) (.cells #[.string ⟨#[]⟩, .int .i64 0, .bool false, .string ⟨#[]⟩] 68))
  have HK := hidIt (heap_alloc_new w (.cells #[.string ⟨#[]⟩, .int .i64 0, .bool false, .string ⟨#[]⟩] 68))
  have hk0 : w.heap.size ≠ R := by omega
  clear h hw hE
  go_enter Tryz.func137, Tryz.ntmps137
  go_wp2_with fail
  generalize (w.alloc (.cells #[.string ⟨#[]⟩, .int .i64 0, .bool false, .string ⟨#[]⟩] 68)) = w0 at *
  refine (HC1.out _ H.out).mono ?_
  rintro e w2 ⟨rfl, hr2, hg2⟩
  have HR2 := hidIt hr2
  have HG2 := hidIt (only_trans HG.out hg2)
  have HE2 := hidIt (HEn.out.kept hg2 (fun g e => by injection e with e; omega))
  have HK2 := hidIt (keepB HK.out hg2 hk0)
  clear hr2 hg2 H HG HEn HK
  have HP3 := hidIt (heap_alloc_new w2 (.cells #[.string nm, .int .i64 0, .bool false, .string ⟨#[]⟩] 68))
  have HR3 := hidIt (HR2.out.alloc (.cells #[.string nm, .int .i64 0, .bool false, .string ⟨#[]⟩] 68))
  have HE3 := hidIt (HE2.out.kept (only_alloc (only_refl w2 none) (.cells #[.string nm, .int .i64 0, .bool false, .string ⟨#[]⟩] 68)) (fun g e => by cases e))
  have HG3 := hidIt (only_alloc HG2.out (.cells #[.string nm, .int .i64 0, .bool false, .string ⟨#[]⟩] 68))
  have HK3 := hidIt (blk_kept2 HK2.out (bgrow w2 (.cells #[.string nm, .int .i64 0, .bool false, .string ⟨#[]⟩] 68)))
  have hww : w.heap.size < w2.heap.size := lt_of_block HK2.out
  have hk1 : w2.heap.size ≠ R := by omega
  have hk2 : w.heap.size ≠ w2.heap.size := by omega
  clear HR2 HE2 HG2 HK2
  go_wp2_with fail
  generalize (w2.alloc (.cells #[.string nm, .int .i64 0, .bool false, .string ⟨#[]⟩] 68)) = w3 at *
  refine (HC2.out _ HR3.out HE3.out).mono ?_
  rintro e w4 ⟨rfl, hr4, hg4⟩
  have hp4 := keepB HP3.out hg4 hk1
  have pf1 := free_any hp4 1
  obtain ⟨p0, p1, p2, p3⟩ := bcell4 hp4
  have HR5 := hidIt (RdAt.set L R (b := w2.heap.size) (i := 1) (u := .int .i64 rank) hr4 (by omega))
  have HG5 := hidIt (only_self (only_trans HG3.out hg4) (b := w2.heap.size) (by omega) 1 (.int .i64 rank))
  have HK5 := hidIt (keepS (p := ⟨w2.heap.size, 1, none⟩) (u := .int .i64 rank) (keepB HK3.out hg4 hk0) hk2)
  have HP5 : Hid ((w4.setCell ⟨w2.heap.size, 1, none⟩ (.int .i64 rank)).heap[w2.heap.size]? = some (.cells #[.string nm, .int .i64 rank, .bool false, .string ⟨#[]⟩] 68 (0, 0))) := hidIt (setB (.int .i64 rank) hp4)
  clear hr4 hg4 hp4 HR3 HE3 HG3 HK3 HP3
  go_wp2_with fail
  clear p0 p1 p2 p3 pf1
  generalize (w4.setCell ⟨w2.heap.size, 1, none⟩ (.int .i64 rank)) = w5 at *
  refine (word_any L R r2 _ HR5.out).mono ?_
  rintro e w6 ⟨rfl, hr6, hg6⟩
  have HR6 := hidIt hr6
  have HG6 := hidIt (only_trans HG5.out hg6)
  have HK6 := hidIt (keepB HK5.out hg6 hk0)
  have HP6 := hidIt (keepB HP5.out hg6 hk1)
  clear hr6 hg6 HR5 HG5 HK5 HP5
  go_wp2_with fail
  refine (HC3.out _ HR6.out).mono ?_
  rintro e w7 ⟨rfl, hr7, hg7⟩
  have hp7 := keepB HP6.out hg7 hk1
  have hk7 := keepB HK6.out hg7 hk0
  have HR7 := hidIt hr7
  have HG7 := hidIt (only_trans HG6.out hg7)
  clear hr7 hg7 HR6 HG6 HK6 HP6
  obtain ⟨p0, p1, p2, p3⟩ := bcell4 hp7
  obtain ⟨z0, z1, z2, z3⟩ := bcell4 hk7
  have pf2 := free_any hp7 2
  have pf3 := free_any hp7 3
  have zf0 := free_any hk7 0
  have zf1 := free_any hk7 1
  have zf2 := free_any hk7 2
  have zf3 := free_any hk7 3
  have hl4 := lt_of_block hp7
  have hl0 := lt_of_block hk7
  clear hp7 hk7
  go_wp2_with fail
  refine bodyPost_ret (v := .agg #[.string nm, .int .i64 rank, .bool yn, .string ys]) (by simp [results, Tryz.results137, go_sem, z0, z1, z2, z3, hk2, p0, p1, p2, p3, hl4, hl0]) rfl ?_
  rw [HA.out]
  refine ⟨rfl, ?_, ?_⟩
  · repeat refine RdAt.set L R ?_ (by omega)
    exact HR7.out
  · repeat refine only_self ?_ (by omega) _ _
    exact HG7.out

end Go.Proofs.YtmhloapjadhifaaGreatDoor

namespace Go.Proofs.YtmhloapjadhifaaGreatDoor
set_option linter.unusedVariables false
set_option linter.unusedSimpArgs false
open Go Go.RowKit

theorem owns_slice {w : World} {B : Nat} {e : TypeId} {k : Nat} {v : Value} {n : Nat} {xs : List Value} (h : w.ownsRow B e k v (n + 1) xs) : ∃ g cap : Nat, v = .slice (some ⟨g, 0, none⟩) (n + 1) cap ∧ B ≤ g := by
  rcases h.2 with ⟨-, h0⟩ | ⟨g, cap, cur, hv, hB, -⟩
  · omega
  · exact ⟨g, cap, hv, hB⟩
theorem step_append_sl {w : World} {ops : Array Oper} {o : Oper} {a : Act} {K : Act → World → Prop} {Q : Exit → Act → World → Prop} {E : Prop} (hgd : o.guard = none) (s x : Operand) {T e : TypeId} {k by' : Nat} (hE : ElemOf T e k by')
    (ho : o.op = .call { callee := .builtin .append, args := #[s, x], argTypes := #[T, T] }) (B : Nat) (v : Value) (n : Nat) (xs : List Value) (hs : a.eval s = v) (hown : w.ownsRow B e k v n xs)
    (m c1 : Nat) (hx : a.eval x = .slice (some ⟨m, 0, none⟩) 1 c1) (cs : Array Value) (tm : TypeId) (hm : w.heap[m]? = some (.cells cs tm (0, 0))) (hcs : cs.size = k) (hone : ∀ u ∈ cs.toList, u.oneCell' = true) (hlen : n ≤ 1000000) (hB : B ≤ w.heap.size)
    (h : ∀ g cap w', w'.ownsRow B e k (.slice (some ⟨g, 0, none⟩) (n + 1) cap) (n + 1) (xs ++ cs.toList) → w.grownBy w' v.ownBlock → B ≤ g → K (a.put o.dst (.slice (some ⟨g, 0, none⟩) (n + 1) cap)) w') :
    if Region.wanted o (yielded ops a.tmps) = true then Oper.wp Tryz.prog o a w K Q else E :=
  step_append_one hgd s x hE ho B v n xs hs hown m c1 hx cs tm hm hcs hone hlen hB fun v' w' h1 h2 _ => by
    obtain ⟨g, cap, rfl, hg⟩ := owns_slice h1
    exact h g cap w' h1 h2 hg

theorem infoLt : (Tryz.prog.info? 28).map (fun i => (i.zero, i.size, i.bytes)) = some (some (.agg #[.bool false, .string ⟨#[]⟩]), 2, 24) := by kernel_rfl
theorem elemLt : ElemOf 58 28 2 24 := elem_of Tryz.underlying58 infoLt rfl (by decide) (by decide)
def encLt (x : Lt) : List Value := [.bool x.neg, .string x.name]
def OwnLt (w : World) (B : Nat) (v : Value) (xs : List Lt) : Prop := w.ownsRow B 28 2 v xs.length (xs.flatMap encLt)
theorem OwnLt.nil (w : World) (B : Nat) : OwnLt w B (.slice none 0 0) [] := World.ownsRow_nil w B _ _
theorem OwnLt.body {w : World} {B : Nat} {v : Value} {xs : List Lt} (h : OwnLt w B v xs) : BodyIn w (fun k => B ≤ k) v xs := by
  rcases h.2 with ⟨rfl, h0⟩ | ⟨g, cap, cur, hv, hB, hg, hnc, hcm, -, -⟩
  · exact .inl ⟨rfl, List.eq_nil_of_length_eq_zero h0⟩
  · refine .inr ⟨g, 0, cap, hv, hnc, hcm, lt_of_block hg, hB, fun i hi => ?_⟩
    have hc := fun j (hj : j < 2) (u : Value) (hu : (encLt xs[i])[j]? = some u) => owns_cell h hv (i * 2 + j) u (by rw [flat_get encLt 2 (fun _ => rfl) xs i j hi hj]; exact hu)
    rw [Nat.zero_add]
    exact ⟨hc 0 (by decide) _ rfl, hc 1 (by decide) _ rfl⟩
theorem OwnLt.blk {w : World} {B : Nat} {v : Value} {xs : List Lt} (h : OwnLt w B v xs) : ∀ g, v.ownBlock = some g → B ≤ g ∧ g < w.heap.size := owns_blk h
theorem OwnLt.kept {w w' : World} {B : Nat} {v : Value} {xs : List Lt} {row : Option Nat} (h : OwnLt w B v xs) (hg : w.grownBy w' row) (hr : ∀ g, row = some g → g < B) : OwnLt w' B v xs :=
  owns_kept h fun g e => hg.block g (h.blk g e).2 (fun e2 => by have := hr g e2.symm; have := (h.blk g e).1; omega)
theorem OwnLt.snoc {w : World} {B n : Nat} {v : Value} {xs : List Lt} {x : Lt} (hn : n = xs.length) (h : w.ownsRow B 28 2 v (n + 1) (xs.flatMap encLt ++ [.bool x.neg, .string x.name])) : OwnLt w B v (xs ++ [x]) := by
  subst hn
  unfold OwnLt
  rw [List.flatMap_append, List.length_append]
  simpa [encLt] using h
theorem OwnLt.set {w : World} {B : Nat} {v : Value} {xs : List Lt} {b i : Nat} {u : Value} (h : OwnLt w B v xs) (hb : b < B) : OwnLt (w.setCell ⟨b, i, none⟩ u) B v xs :=
  h.kept (only_setCell (only_refl w (some b)) (p := ⟨b, i, none⟩) (.inl rfl) u) (fun g e => by injection e with e; omega)
theorem only_up {w a a' : World} {R : Nat} {row : Option Nat} (h : w.grownBy a (some R)) (hg : a.grownBy a' row) (hr : ∀ g, row = some g → w.heap.size ≤ g) : w.grownBy a' (some R) :=
  ⟨hg.os.trans h.os, hg.tape.trans h.tape, hg.output.trans h.output, Nat.le_trans h.size hg.size, fun k hk hne => (hg.block k (Nat.lt_of_lt_of_le hk h.size) (fun e => by have := hr k e.symm; omega)).trans (h.block k hk hne)⟩
theorem hone_lt (a : Bool) (b : ByteArray) : ∀ u ∈ (#[.bool a, .string b] : Array Value).toList, u.oneCell' = true := by
  intro u hu
  simp only [List.mem_cons, List.not_mem_nil, or_false] at hu
  rcases hu with rfl | rfl <;> rfl

/-- How many words stand ahead. -/
def aheadN (R : Nat) (w : World) : Nat := match w.cell? ⟨R, 0, none⟩ with
  | some (.slice _ n _) => n
  | _ => 0
theorem RdAt.ahead {w : World} {L R : Nat} {r : Rd} (h : RdAt w L R r) : aheadN R w = r.ws.length := by
  obtain ⟨a, c, h1, -⟩ := h.look
  unfold aheadN
  rw [h1]

def gW (x : ByteArray) : Lt := litW (trimT x comT)
def fW (x : ByteArray) : Bool := !litOk (trimT x comT)

set_option maxRecDepth 100000 in
set_option maxHeartbeats 4000000 in
theorem rrule_any (B L R : Nat) (st : Bool) (r : Rd) (w : World) (h : RdAt w L R r) (hw : WsOk r.ws) (hn : r.ws.length ≤ 5000) (hE : EnvUp B w) (hB : B ≤ R) :
    Calls Tryz.prog 136 #[.pointer (some ⟨R, 0, none⟩), .bool st] w fun e w' => ∃ (a : Option Addr) (n c : Nat), e = .returned (.agg #[.string (rdRule st r).1.name, .bool (rdRule st r).1.strict, .int .i64 (rdRule st r).1.rank, .slice a n c, .bool (rdRule st r).1.head.neg, .string (rdRule st r).1.head.name]) ∧
      BodyIn w' (fun k => w.heap.size ≤ k) (.slice a n c) (rdRule st r).1.body ∧ RdAt w' L R (rdRule st r).2 ∧ w.grownBy w' (some R) := by
  have hL := h.1
  have hR := h.2.1
  have HA : Hid (rdRule st r = (⟨(rdName r colT).1, st, (rdRule1 st r).1, (rdRule2 st r).1, (rdLit (rdWord (rdRule2 st r).2) nilT).1⟩, (rdLit (rdWord (rdRule2 st r).2) nilT).2)) := by show _ = _; rfl
  have HA2 : Hid (rdRule2 st r = rdBody ((rdRule1 st r).2.ws.length - 2) (rdRule1 st r).2) := by show _ = _; rfl
  have HA1 : Hid (rdRule1 st r = if st then (0, (rdName r colT).2) else rdRank (rdName r colT).2 colT) := by show _ = _; rfl
  have hw1 : WsOk (rdName r colT).2.ws := hw.tail
  have hn1 : (rdName r colT).2.ws.length ≤ 5000 := by show r.ws.tail.length ≤ 5000; rw [List.length_tail]; omega
  have hw2 : WsOk (rdRule1 st r).2.ws := by
    rw [HA1.out]
    cases st
    · exact hw1.tail
    · exact hw1
  have hn2 : (rdRule1 st r).2.ws.length ≤ 5000 := by
    rw [HA1.out]
    cases st
    · show (rdName r colT).2.ws.tail.length ≤ 5000
      rw [List.length_tail]; omega
    · exact hn1
  have HC1 : Hid (∀ wx : World, RdAt wx L R r → Calls Tryz.prog 167 #[.pointer (some ⟨R, 0, none⟩), .string ⟨#[58]⟩] wx fun e w' => e = .returned (.string (rdName r colT).1) ∧ RdAt w' L R (rdName r colT).2 ∧ wx.grownBy w' (some R)) := fun wx hx => rname_any L R r colT wx hx hw
  have HC2 : Hid (st = false → ∀ wx : World, RdAt wx L R (rdName r colT).2 → EnvUp B wx → Calls Tryz.prog 168 #[.pointer (some ⟨R, 0, none⟩), .string ⟨#[58]⟩] wx fun e w' => e = .returned (.int .i64 (rdRule1 st r).1) ∧ RdAt w' L R (rdRule1 st r).2 ∧ wx.grownBy w' (some R)) := fun hs wx hx hE => by
    have e := HA1.out
    rw [if_neg (by rw [hs]; decide)] at e
    rw [e]
    exact rrank_any B L R (rdName r colT).2 colT wx hx hw1 hE hB
  have HC2n : Hid (st = true → rdRule1 st r = (0, (rdName r colT).2)) := fun hs => by rw [HA1.out, if_pos hs]
  generalize rdRule st r = A at *
  generalize hA2 : rdRule2 st r = A2 at *
  have HC3 : Hid (WsOk A2.2.ws → ∀ wx : World, RdAt wx L R (rdWord A2.2) → Calls Tryz.prog 169 #[.pointer (some ⟨R, 0, none⟩), .string ⟨#[]⟩] wx fun e w' => e = .returned (.agg #[.bool (rdLit (rdWord A2.2) nilT).1.neg, .string (rdLit (rdWord A2.2) nilT).1.name]) ∧ RdAt w' L R (rdLit (rdWord A2.2) nilT).2 ∧ wx.grownBy w' (some R)) := fun hx wx hx2 => rlit_any L R (rdWord A2.2) nilT wx hx2 hx.tail
  clear hA2
  generalize rdLit (rdWord A2.2) nilT = A3 at *
  obtain ⟨⟨yn, ys⟩, r4⟩ := A3
  generalize rdRule1 st r = A1 at *
  generalize rdName r colT = A0 at *
  obtain ⟨nm, r1⟩ := A0
  obtain ⟨rank, r2⟩ := A1
  obtain ⟨bd, r3⟩ := A2
  simp only at HC1 HC2 HC2n HC3 HA HA2 hw2 hn2
  clear hw1 hn1 HA1
  have HBD : Hid (bd = (r2.ws.take (r2.ws.length - 2)).map gW) := by have := (Prod.mk.inj HA2.out).1; exact this
  have HR3E : Hid (r3 = ⟨r2.ws.drop (r2.ws.length - 2), r2.bad || (r2.ws.take (r2.ws.length - 2)).any fW⟩) := by have := (Prod.mk.inj HA2.out).2; exact this
  clear HA2
  have HW2 := hidIt hw2
  clear hw2
  have H := hidIt (h.alloc (.cells #[.string ⟨#[]⟩, .bool false, .int .i64 0, .slice none 0 0, .bool false, .string ⟨#[]⟩] 66))
  have HEn := hidIt (hE.kept (only_alloc (only_refl w none) (.cells #[.string ⟨#[]⟩, .bool false, .int .i64 0, .slice none 0 0, .bool false, .string ⟨#[]⟩] 66)) (fun g e => by cases e))
  have HG := hidIt (only_alloc (only_refl w (some R)) (.cells #[.string ⟨#[]⟩, .bool false, .int .i64 0, .slice none 0 0, .bool false, .string ⟨#[]⟩] 66))
  have HK := hidIt (heap_alloc_new w (.cells #[.string ⟨#[]⟩, .bool false, .int .i64 0, .slice none 0 0, .bool false, .string ⟨#[]⟩] 66))
  have hk0 : w.heap.size ≠ R := by omega
  clear h hw hE
  go_enter Tryz.func136, Tryz.ntmps136
  go_wp2_with fail
  generalize (w.alloc (.cells #[.string ⟨#[]⟩, .bool false, .int .i64 0, .slice none 0 0, .bool false, .string ⟨#[]⟩] 66)) = w0 at *
  refine (HC1.out _ H.out).mono ?_
  rintro e w2 ⟨rfl, hr2, hg2⟩
  have HR2 := hidIt hr2
  have HG2 := hidIt (only_trans HG.out hg2)
  have HE2 := hidIt (HEn.out.kept hg2 (fun g e => by injection e with e; omega))
  have HK2 := hidIt (keepB HK.out hg2 hk0)
  clear hr2 hg2 H HG HEn HK
  have HP3 := hidIt (heap_alloc_new w2 (.cells #[.string nm, .bool st, .int .i64 0, .slice none 0 0, .bool false, .string ⟨#[]⟩] 66))
  have HR3 := hidIt (HR2.out.alloc (.cells #[.string nm, .bool st, .int .i64 0, .slice none 0 0, .bool false, .string ⟨#[]⟩] 66))
  have HE3 := hidIt (HE2.out.kept (only_alloc (only_refl w2 none) (.cells #[.string nm, .bool st, .int .i64 0, .slice none 0 0, .bool false, .string ⟨#[]⟩] 66)) (fun g e => by cases e))
  have HG3 := hidIt (only_alloc HG2.out (.cells #[.string nm, .bool st, .int .i64 0, .slice none 0 0, .bool false, .string ⟨#[]⟩] 66))
  have HK3 := hidIt (blk_kept2 HK2.out (bgrow w2 (.cells #[.string nm, .bool st, .int .i64 0, .slice none 0 0, .bool false, .string ⟨#[]⟩] 66)))
  have hww : w.heap.size < w2.heap.size := lt_of_block HK2.out
  have hk1 : w2.heap.size ≠ R := by omega
  have hk2 : w.heap.size ≠ w2.heap.size := by omega
  clear HR2 HE2 HG2 HK2
  cases st
  case false =>
    have HC2' := hidIt (HC2.out rfl)
    clear HC2 HC2n
    go_wp2_with fail
    generalize (w2.alloc (.cells #[.string nm, .bool false, .int .i64 0, .slice none 0 0, .bool false, .string ⟨#[]⟩] 66)) = w3 at *
    refine (HC2'.out _ HR3.out HE3.out).mono ?_
    rintro e w4 ⟨rfl, hr4, hg4⟩
    have hp4 := keepB HP3.out hg4 hk1
    have pf2 := free_any hp4 2
    obtain ⟨p0, p1, p2, p3, p4, p5⟩ := bcell6 hp4
    have HRL := hidIt (RdAt.set L R (b := w2.heap.size) (i := 2) (u := .int .i64 rank) hr4 (by omega))
    have HGL := hidIt (only_self (only_trans HG3.out hg4) (b := w2.heap.size) (by omega) 2 (.int .i64 rank))
    have HEL := hidIt ((HE3.out.kept hg4 (fun g e => by injection e with e; omega)).kept (only_setCell (only_refl w4 (some w2.heap.size)) (p := ⟨w2.heap.size, 2, none⟩) (.inl rfl) (.int .i64 rank)) (fun g e => by injection e with e; omega))
    have HKL := hidIt (keepS (p := ⟨w2.heap.size, 2, none⟩) (u := .int .i64 rank) (keepB HK3.out hg4 hk0) hk2)
    have HPL : Hid ((w4.setCell ⟨w2.heap.size, 2, none⟩ (.int .i64 rank)).heap[w2.heap.size]? = some (.cells #[.string nm, .bool false, .int .i64 rank, .slice none 0 0, .bool false, .string ⟨#[]⟩] 66 (0, 0))) := hidIt (setB (.int .i64 rank) hp4)
    have hl4 := lt_of_block hp4
    clear hr4 hg4 hp4 HR3 HE3 HG3 HK3 HP3
    go_wp2_with fail
    clear p0 p1 p2 p3 p4 p5 pf2 hl4
    generalize (w4.setCell ⟨w2.heap.size, 2, none⟩ (.int .i64 rank)) = wL at *
    generalize w2.heap.size = q at *
    have hqL : q < wL.heap.size := lt_of_block HPL.out
    have hnm : r2.ws.length - 2 ≤ 5000 := by omega
    go_loopw [] (fun wr => ∃ (j : Nat) (a : Option Addr) (c : Nat), j ≤ r2.ws.length - 2 ∧ Hid (RdAt wr L R ⟨r2.ws.drop j, r2.bad || (r2.ws.take j).any fW⟩) ∧ Hid (EnvUp B wr) ∧ Hid (w.grownBy wr (some R)) ∧ Hid (wr.heap[w.heap.size]? = some (.cells #[.string ⟨#[]⟩, .bool false, .int .i64 0, .slice none 0 0, .bool false, .string ⟨#[]⟩] 66 (0, 0))) ∧
      Hid (wr.heap[q]? = some (.cells #[.string nm, .bool false, .int .i64 rank, .slice a j c, .bool false, .string ⟨#[]⟩] 66 (0, 0))) ∧ Hid (OwnLt wr (q + 1) (.slice a j c) ((r2.ws.take j).map gW))) (fun wr => aheadN R wr)
    case atStart => exact ⟨0, none, 0, Nat.zero_le _, by show RdAt _ _ _ _; simpa using HRL.out, HEL.out, HGL.out, HKL.out, HPL.out, OwnLt.nil _ _⟩
    case round =>
      clear HRL HEL HGL HKL HPL hqL
      obtain ⟨j, a, c, hj, HRr, HEr, HGr, HKr, HPr, HOr⟩ := hrel
      obtain ⟨la, lc, c0, -⟩ := HRr.out.look
      obtain ⟨p0, p1, p2, p3, p4, p5⟩ := bcell6 HPr.out
      have hqr := lt_of_block HPr.out
      have hRr := HRr.out.lt
      have hlen : (r2.ws.drop j).length = r2.ws.length - j := by rw [List.length_drop]
      have HLN := hidIt hlen
      simp only at c0
      rw [hlen] at c0
      by_cases hlt : 2 < r2.ws.length - j
      · have hltI : (2 : Int) < ((r2.ws.length - j : Nat) : Int) := by omega
        have hj1 : j < r2.ws.length := by omega
        have HHD : Hid (hdW (r2.ws.drop j) = r2.ws[j]) := by show _ = _; rw [List.drop_eq_getElem_cons hj1]; rfl
        have HTL : Hid ((r2.ws.drop j).tail = r2.ws.drop (j + 1)) := by show _ = _; rw [List.drop_eq_getElem_cons hj1]; rfl
        have HTK : Hid (r2.ws.take (j + 1) = r2.ws.take j ++ [r2.ws[j]]) := List.take_succ_eq_append_getElem hj1
        have HCL : Hid (∀ wx : World, RdAt wx L R ⟨r2.ws.drop j, r2.bad || (r2.ws.take j).any fW⟩ → Calls Tryz.prog 169 #[.pointer (some ⟨R, 0, none⟩), .string ⟨#[44]⟩] wx fun e w' => e = .returned (.agg #[.bool (gW r2.ws[j]).neg, .string (gW r2.ws[j]).name]) ∧ RdAt w' L R ⟨r2.ws.drop (j + 1), r2.bad || (r2.ws.take (j + 1)).any fW⟩ ∧ wx.grownBy w' (some R)) := fun wx hx => by
          have := rlit_any L R ⟨r2.ws.drop j, r2.bad || (r2.ws.take j).any fW⟩ comT wx hx (fun x hx => HW2.out x (List.mem_of_mem_drop hx))
          have e : rdLit ⟨r2.ws.drop j, r2.bad || (r2.ws.take j).any fW⟩ comT = (gW r2.ws[j], ⟨r2.ws.drop (j + 1), r2.bad || (r2.ws.take (j + 1)).any fW⟩) := by
            unfold rdLit gW
            simp only
            rw [HHD.out, HTL.out, HTK.out, List.any_append, Bool.or_assoc]
            simp [fW]
          rw [e] at this
          exact this
        clear HHD HTL
        have htl : (List.map gW (r2.ws.take j)).length = j := by rw [List.length_map, List.length_take]; omega
        have HML : Hid ((r2.ws.take (j + 1)).map gW = (r2.ws.take j).map gW ++ [gW r2.ws[j]]) := by show _ = _; rw [HTK.out, List.map_append]; rfl
        clear HTK
        generalize gW r2.ws[j] = y at *
        obtain ⟨yn', ys'⟩ := y
        simp only at HCL
        have hwlt : w.heap.size < wr.heap.size := lt_of_block HKr.out
        have hsz : w.heap.size ≤ wr.heap.size := HGr.out.size
        have hLr := HRr.out.1
        go_wp2_with fail
        have HRd : Hid (RdAt wr.drew L R ⟨r2.ws.drop j, r2.bad || (r2.ws.take j).any fW⟩) := hidIt (HRr.out.go (Below.refl _ _).drew)
        have HPd := hidIt (blk_kept2 HPr.out (Below.refl _ _).drew)
        have HOd := hidIt (HOr.out.kept (only_of_below (Below.refl wr.heap.size wr).drew none) (fun g e => by cases e))
        clear p0 p1 p2 p4 p5 c0
        go_region_law (first
          | ((refine step_append_sl (by rfl) (.tmp 22) (.tmp 25) elemLt (by rfl) (q + 1) (.slice a j c) j _ (by rfl) (World.ownsRow.alloc (by have := HOd.out.kept hg2 (fun g e => by injection e with e; omega); unfold OwnLt at this; rw [htl] at this; exact this) _) _ 1 (by rfl) #[.bool yn', .string ys'] _ (heap_alloc_new w2 _) rfl (hone_lt _ _) (by omega) (by have := hg2.size; simp at *; omega) ?_); intro g5 c5 w5 hown5 hg5 hq5; have hp5 := (hg5.block q (by have := lt_of_block (keepB HPd.out hg2 hk1); simp; omega) (fun e => by have := (HOr.out.blk q e.symm).1; omega)).trans (blk_kept2 (keepB HPd.out hg2 hk1) (bgrow w2 _)); have x5 := (bcell6 hp5).2.2.2.1; have y5 := free_any hp5 3; have l5 := lt_of_block hp5)
          | (go_simp; go_at_call 169; refine (HCL.out _ HRd.out).mono ?_; rintro e w2 ⟨rfl, hr2, hg2⟩; have p3' := (bcell6 (keepB HPd.out hg2 hk1)).2.2.2.1; have lp2 := lt_of_block (keepB HPd.out hg2 hk1)))
        all_goals
          have hown := fun gg (e : (Value.slice a j c).ownBlock = some gg) => (HOr.out.blk gg e).1
          have hr5 := (hr2.alloc (.cells #[.bool yn', .string ys'] 28)).kept hg5 (fun gg e => by have := hown gg e; omega)
          have HR6 := hidIt (RdAt.set L R (b := q) (i := 3) (u := .slice (some ⟨g5, 0, none⟩) (j + 1) c5) hr5 (by omega))
          have hE5 := (((HEr.out.kept (only_of_below (Below.refl wr.heap.size wr).drew none) (fun g e => by cases e)).kept hg2 (fun g e => by injection e with e; omega)).kept (only_alloc (only_refl w2 none) (.cells #[.bool yn', .string ys'] 28)) (fun g e => by cases e)).kept hg5 (fun gg e => by have := hown gg e; omega)
          have HE6 := hidIt (hE5.kept (only_setCell (only_refl w5 (some q)) (p := ⟨q, 3, none⟩) (.inl rfl) (.slice (some ⟨g5, 0, none⟩) (j + 1) c5)) (fun g e => by injection e with e; omega))
          have hG5 := only_up (only_alloc (only_trans (only_trans HGr.out (only_of_below (Below.refl wr.heap.size wr).drew _)) hg2) (.cells #[.bool yn', .string ys'] 28)) hg5 (fun gg e => by have := hown gg e; omega)
          have HG6 := hidIt (only_self hG5 (b := q) (by omega) 3 (.slice (some ⟨g5, 0, none⟩) (j + 1) c5))
          have hK2 := blk_kept2 (keepB (blk_kept2 HKr.out (Below.refl _ _).drew) hg2 hk0) (bgrow w2 (.cells #[.bool yn', .string ys'] 28))
          have hK5 := (hg5.block w.heap.size (lt_of_block hK2) (fun e => by have := hown _ e.symm; omega)).trans hK2
          have HK6 := hidIt (keepS (p := ⟨q, 3, none⟩) (u := .slice (some ⟨g5, 0, none⟩) (j + 1) c5) hK5 hk2)
          have HP6 : Hid ((w5.setCell ⟨q, 3, none⟩ (.slice (some ⟨g5, 0, none⟩) (j + 1) c5)).heap[q]? = some (.cells #[.string nm, .bool false, .int .i64 rank, .slice (some ⟨g5, 0, none⟩) (j + 1) c5, .bool false, .string ⟨#[]⟩] 66 (0, 0))) := hidIt (setB (.slice (some ⟨g5, 0, none⟩) (j + 1) c5) hp5)
          have ho5 : OwnLt w5 (q + 1) (.slice (some ⟨g5, 0, none⟩) (j + 1) c5) ((r2.ws.take (j + 1)).map gW) := by rw [HML.out]; exact OwnLt.snoc htl.symm hown5
          have HO6 := hidIt (OwnLt.set (b := q) (i := 3) (u := .slice (some ⟨g5, 0, none⟩) (j + 1) c5) ho5 (by omega))
          clear hown hr5 hE5 hG5 hK2 hK5 ho5 hown5 hg5 hp5 hr2 hg2 hq5 p3' lp2 p3
          go_wp2_with fail
          go_roundw
          case rel => exact ⟨j + 1, some ⟨g5, 0, none⟩, c5, by omega, HR6.out, HE6.out, HG6.out, HK6.out, HP6.out, HO6.out⟩
          case measure =>
            rw [HR6.out.ahead, HRr.out.ahead]
            simp only [List.length_drop]
            omega
      · obtain rfl : j = r2.ws.length - 2 := by omega
        have hltI : ¬ (2 : Int) < ((r2.ws.length - (r2.ws.length - 2) : Nat) : Int) := by omega
        have HRw : Hid (RdAt wr L R r3) := by show RdAt _ _ _ _; rw [HR3E.out]; exact HRr.out
        have HOw : Hid (OwnLt wr (q + 1) (.slice a ((r2.ws.length - 2 : Nat)) c) bd) := by show OwnLt _ _ _ _; rw [HBD.out]; exact HOr.out
        have HW3 : Hid (WsOk r3.ws) := by show WsOk _; rw [HR3E.out]; exact fun x hx => HW2.out x (List.mem_of_mem_drop hx)
        have HN := hidIt (HC3.out HW3.out)
        have hsz : w.heap.size ≤ wr.heap.size := HGr.out.size
        clear HRr HOr HC3 HR3E HBD HLN
        generalize r2.ws.length - 2 = nb at *
        go_wp2_with fail
        clear p0 p1 p2 p3 p4 p5 c0
        refine (word_any L R r3 _ HRw.out).mono ?_
        rintro e w6 ⟨rfl, hr6, hg6⟩
        have HR6 := hidIt hr6
        have HG6 := hidIt (only_trans HGr.out hg6)
        have HK6 := hidIt (keepB HKr.out hg6 hk0)
        have HP6 := hidIt (keepB HPr.out hg6 hk1)
        have HO6 := hidIt (HOw.out.kept hg6 (fun g e => by injection e with e; omega))
        clear hr6 hg6 HRw HGr HKr HPr HOw
        go_wp2_with fail
        refine (HN.out _ HR6.out).mono ?_
        rintro e w7 ⟨rfl, hr7, hg7⟩
        have hp7 := keepB HP6.out hg7 hk1
        have hk7 := keepB HK6.out hg7 hk0
        have HR7 := hidIt hr7
        have HG7 := hidIt (only_trans HG6.out hg7)
        have HO7 := hidIt (HO6.out.kept hg7 (fun g e => by injection e with e; omega))
        clear hr7 hg7 HR6 HG6 HK6 HP6 HO6
        obtain ⟨p0, p1, p2, p3, p4, p5⟩ := bcell6 hp7
        obtain ⟨z0, z1, z2, z3, z4, z5⟩ := bcell6 hk7
        have pf4 := free_any hp7 4
        have pf5 := free_any hp7 5
        have zf0 := free_any hk7 0
        have zf1 := free_any hk7 1
        have zf2 := free_any hk7 2
        have zf3 := free_any hk7 3
        have zf4 := free_any hk7 4
        have zf5 := free_any hk7 5
        have hl4 := lt_of_block hp7
        have hl0 := lt_of_block hk7
        clear hp7 hk7 hqr hRr
        go_wp2_with fail
        refine bodyPost_ret (v := .agg #[.string nm, .bool false, .int .i64 rank, .slice a nb c, .bool yn, .string ys]) (by simp [results, Tryz.results136, go_sem, z0, z1, z2, z3, z4, z5, hk2, p0, p1, p2, p3, p4, p5, hl4, hl0]) rfl ?_
        rw [HA.out]
        refine ⟨a, nb, c, rfl, ?_, ?_, ?_⟩
        · refine OwnLt.body (B := q + 1) ?_ |>.mono (fun k hk => by omega)
          repeat refine OwnLt.set ?_ (by omega)
          exact HO7.out
        · repeat refine RdAt.set L R ?_ (by omega)
          exact HR7.out
        · repeat refine only_self ?_ (by omega) _ _
          exact HG7.out
  case true =>
    obtain ⟨rfl, rfl⟩ := Prod.mk.inj (HC2n.out rfl)
    clear HC2 HC2n
    go_wp2_with fail
    have HRL := HR3
    have HGL := HG3
    have HEL := HE3
    have HKL := HK3
    have HPL := HP3
    clear HR3 HE3 HG3 HK3 HP3
    generalize (w2.alloc (.cells #[.string nm, .bool true, .int .i64 0, .slice none 0 0, .bool false, .string ⟨#[]⟩] 66)) = wL at *
    generalize w2.heap.size = q at *
    have hqL : q < wL.heap.size := lt_of_block HPL.out
    have hnm : r2.ws.length - 2 ≤ 5000 := by omega
    go_loopw [] (fun wr => ∃ (j : Nat) (a : Option Addr) (c : Nat), j ≤ r2.ws.length - 2 ∧ Hid (RdAt wr L R ⟨r2.ws.drop j, r2.bad || (r2.ws.take j).any fW⟩) ∧ Hid (EnvUp B wr) ∧ Hid (w.grownBy wr (some R)) ∧ Hid (wr.heap[w.heap.size]? = some (.cells #[.string ⟨#[]⟩, .bool false, .int .i64 0, .slice none 0 0, .bool false, .string ⟨#[]⟩] 66 (0, 0))) ∧
      Hid (wr.heap[q]? = some (.cells #[.string nm, .bool true, .int .i64 0, .slice a j c, .bool false, .string ⟨#[]⟩] 66 (0, 0))) ∧ Hid (OwnLt wr (q + 1) (.slice a j c) ((r2.ws.take j).map gW))) (fun wr => aheadN R wr)
    case atStart => exact ⟨0, none, 0, Nat.zero_le _, by show RdAt _ _ _ _; simpa using HRL.out, HEL.out, HGL.out, HKL.out, HPL.out, OwnLt.nil _ _⟩
    case round =>
      clear HRL HEL HGL HKL HPL hqL
      obtain ⟨j, a, c, hj, HRr, HEr, HGr, HKr, HPr, HOr⟩ := hrel
      obtain ⟨la, lc, c0, -⟩ := HRr.out.look
      obtain ⟨p0, p1, p2, p3, p4, p5⟩ := bcell6 HPr.out
      have hqr := lt_of_block HPr.out
      have hRr := HRr.out.lt
      have hlen : (r2.ws.drop j).length = r2.ws.length - j := by rw [List.length_drop]
      have HLN := hidIt hlen
      simp only at c0
      rw [hlen] at c0
      by_cases hlt : 2 < r2.ws.length - j
      · have hltI : (2 : Int) < ((r2.ws.length - j : Nat) : Int) := by omega
        have hj1 : j < r2.ws.length := by omega
        have HHD : Hid (hdW (r2.ws.drop j) = r2.ws[j]) := by show _ = _; rw [List.drop_eq_getElem_cons hj1]; rfl
        have HTL : Hid ((r2.ws.drop j).tail = r2.ws.drop (j + 1)) := by show _ = _; rw [List.drop_eq_getElem_cons hj1]; rfl
        have HTK : Hid (r2.ws.take (j + 1) = r2.ws.take j ++ [r2.ws[j]]) := List.take_succ_eq_append_getElem hj1
        have HCL : Hid (∀ wx : World, RdAt wx L R ⟨r2.ws.drop j, r2.bad || (r2.ws.take j).any fW⟩ → Calls Tryz.prog 169 #[.pointer (some ⟨R, 0, none⟩), .string ⟨#[44]⟩] wx fun e w' => e = .returned (.agg #[.bool (gW r2.ws[j]).neg, .string (gW r2.ws[j]).name]) ∧ RdAt w' L R ⟨r2.ws.drop (j + 1), r2.bad || (r2.ws.take (j + 1)).any fW⟩ ∧ wx.grownBy w' (some R)) := fun wx hx => by
          have := rlit_any L R ⟨r2.ws.drop j, r2.bad || (r2.ws.take j).any fW⟩ comT wx hx (fun x hx => HW2.out x (List.mem_of_mem_drop hx))
          have e : rdLit ⟨r2.ws.drop j, r2.bad || (r2.ws.take j).any fW⟩ comT = (gW r2.ws[j], ⟨r2.ws.drop (j + 1), r2.bad || (r2.ws.take (j + 1)).any fW⟩) := by
            unfold rdLit gW
            simp only
            rw [HHD.out, HTL.out, HTK.out, List.any_append, Bool.or_assoc]
            simp [fW]
          rw [e] at this
          exact this
        clear HHD HTL
        have htl : (List.map gW (r2.ws.take j)).length = j := by rw [List.length_map, List.length_take]; omega
        have HML : Hid ((r2.ws.take (j + 1)).map gW = (r2.ws.take j).map gW ++ [gW r2.ws[j]]) := by show _ = _; rw [HTK.out, List.map_append]; rfl
        clear HTK
        generalize gW r2.ws[j] = y at *
        obtain ⟨yn', ys'⟩ := y
        simp only at HCL
        have hwlt : w.heap.size < wr.heap.size := lt_of_block HKr.out
        have hsz : w.heap.size ≤ wr.heap.size := HGr.out.size
        have hLr := HRr.out.1
        go_wp2_with fail
        have HRd : Hid (RdAt wr.drew L R ⟨r2.ws.drop j, r2.bad || (r2.ws.take j).any fW⟩) := hidIt (HRr.out.go (Below.refl _ _).drew)
        have HPd := hidIt (blk_kept2 HPr.out (Below.refl _ _).drew)
        have HOd := hidIt (HOr.out.kept (only_of_below (Below.refl wr.heap.size wr).drew none) (fun g e => by cases e))
        clear p0 p1 p2 p4 p5 c0
        go_region_law (first
          | ((refine step_append_sl (by rfl) (.tmp 22) (.tmp 25) elemLt (by rfl) (q + 1) (.slice a j c) j _ (by rfl) (World.ownsRow.alloc (by have := HOd.out.kept hg2 (fun g e => by injection e with e; omega); unfold OwnLt at this; rw [htl] at this; exact this) _) _ 1 (by rfl) #[.bool yn', .string ys'] _ (heap_alloc_new w2 _) rfl (hone_lt _ _) (by omega) (by have := hg2.size; simp at *; omega) ?_); intro g5 c5 w5 hown5 hg5 hq5; have hp5 := (hg5.block q (by have := lt_of_block (keepB HPd.out hg2 hk1); simp; omega) (fun e => by have := (HOr.out.blk q e.symm).1; omega)).trans (blk_kept2 (keepB HPd.out hg2 hk1) (bgrow w2 _)); have x5 := (bcell6 hp5).2.2.2.1; have y5 := free_any hp5 3; have l5 := lt_of_block hp5)
          | (go_simp; go_at_call 169; refine (HCL.out _ HRd.out).mono ?_; rintro e w2 ⟨rfl, hr2, hg2⟩; have p3' := (bcell6 (keepB HPd.out hg2 hk1)).2.2.2.1; have lp2 := lt_of_block (keepB HPd.out hg2 hk1)))
        all_goals
          have hown := fun gg (e : (Value.slice a j c).ownBlock = some gg) => (HOr.out.blk gg e).1
          have hr5 := (hr2.alloc (.cells #[.bool yn', .string ys'] 28)).kept hg5 (fun gg e => by have := hown gg e; omega)
          have HR6 := hidIt (RdAt.set L R (b := q) (i := 3) (u := .slice (some ⟨g5, 0, none⟩) (j + 1) c5) hr5 (by omega))
          have hE5 := (((HEr.out.kept (only_of_below (Below.refl wr.heap.size wr).drew none) (fun g e => by cases e)).kept hg2 (fun g e => by injection e with e; omega)).kept (only_alloc (only_refl w2 none) (.cells #[.bool yn', .string ys'] 28)) (fun g e => by cases e)).kept hg5 (fun gg e => by have := hown gg e; omega)
          have HE6 := hidIt (hE5.kept (only_setCell (only_refl w5 (some q)) (p := ⟨q, 3, none⟩) (.inl rfl) (.slice (some ⟨g5, 0, none⟩) (j + 1) c5)) (fun g e => by injection e with e; omega))
          have hG5 := only_up (only_alloc (only_trans (only_trans HGr.out (only_of_below (Below.refl wr.heap.size wr).drew _)) hg2) (.cells #[.bool yn', .string ys'] 28)) hg5 (fun gg e => by have := hown gg e; omega)
          have HG6 := hidIt (only_self hG5 (b := q) (by omega) 3 (.slice (some ⟨g5, 0, none⟩) (j + 1) c5))
          have hK2 := blk_kept2 (keepB (blk_kept2 HKr.out (Below.refl _ _).drew) hg2 hk0) (bgrow w2 (.cells #[.bool yn', .string ys'] 28))
          have hK5 := (hg5.block w.heap.size (lt_of_block hK2) (fun e => by have := hown _ e.symm; omega)).trans hK2
          have HK6 := hidIt (keepS (p := ⟨q, 3, none⟩) (u := .slice (some ⟨g5, 0, none⟩) (j + 1) c5) hK5 hk2)
          have HP6 : Hid ((w5.setCell ⟨q, 3, none⟩ (.slice (some ⟨g5, 0, none⟩) (j + 1) c5)).heap[q]? = some (.cells #[.string nm, .bool true, .int .i64 0, .slice (some ⟨g5, 0, none⟩) (j + 1) c5, .bool false, .string ⟨#[]⟩] 66 (0, 0))) := hidIt (setB (.slice (some ⟨g5, 0, none⟩) (j + 1) c5) hp5)
          have ho5 : OwnLt w5 (q + 1) (.slice (some ⟨g5, 0, none⟩) (j + 1) c5) ((r2.ws.take (j + 1)).map gW) := by rw [HML.out]; exact OwnLt.snoc htl.symm hown5
          have HO6 := hidIt (OwnLt.set (b := q) (i := 3) (u := .slice (some ⟨g5, 0, none⟩) (j + 1) c5) ho5 (by omega))
          clear hown hr5 hE5 hG5 hK2 hK5 ho5 hown5 hg5 hp5 hr2 hg2 hq5 p3' lp2 p3
          go_wp2_with fail
          go_roundw
          case rel => exact ⟨j + 1, some ⟨g5, 0, none⟩, c5, by omega, HR6.out, HE6.out, HG6.out, HK6.out, HP6.out, HO6.out⟩
          case measure =>
            rw [HR6.out.ahead, HRr.out.ahead]
            simp only [List.length_drop]
            omega
      · obtain rfl : j = r2.ws.length - 2 := by omega
        have hltI : ¬ (2 : Int) < ((r2.ws.length - (r2.ws.length - 2) : Nat) : Int) := by omega
        have HRw : Hid (RdAt wr L R r3) := by show RdAt _ _ _ _; rw [HR3E.out]; exact HRr.out
        have HOw : Hid (OwnLt wr (q + 1) (.slice a ((r2.ws.length - 2 : Nat)) c) bd) := by show OwnLt _ _ _ _; rw [HBD.out]; exact HOr.out
        have HW3 : Hid (WsOk r3.ws) := by show WsOk _; rw [HR3E.out]; exact fun x hx => HW2.out x (List.mem_of_mem_drop hx)
        have HN := hidIt (HC3.out HW3.out)
        have hsz : w.heap.size ≤ wr.heap.size := HGr.out.size
        clear HRr HOr HC3 HR3E HBD HLN
        generalize r2.ws.length - 2 = nb at *
        go_wp2_with fail
        clear p0 p1 p2 p3 p4 p5 c0
        refine (word_any L R r3 _ HRw.out).mono ?_
        rintro e w6 ⟨rfl, hr6, hg6⟩
        have HR6 := hidIt hr6
        have HG6 := hidIt (only_trans HGr.out hg6)
        have HK6 := hidIt (keepB HKr.out hg6 hk0)
        have HP6 := hidIt (keepB HPr.out hg6 hk1)
        have HO6 := hidIt (HOw.out.kept hg6 (fun g e => by injection e with e; omega))
        clear hr6 hg6 HRw HGr HKr HPr HOw
        go_wp2_with fail
        refine (HN.out _ HR6.out).mono ?_
        rintro e w7 ⟨rfl, hr7, hg7⟩
        have hp7 := keepB HP6.out hg7 hk1
        have hk7 := keepB HK6.out hg7 hk0
        have HR7 := hidIt hr7
        have HG7 := hidIt (only_trans HG6.out hg7)
        have HO7 := hidIt (HO6.out.kept hg7 (fun g e => by injection e with e; omega))
        clear hr7 hg7 HR6 HG6 HK6 HP6 HO6
        obtain ⟨p0, p1, p2, p3, p4, p5⟩ := bcell6 hp7
        obtain ⟨z0, z1, z2, z3, z4, z5⟩ := bcell6 hk7
        have pf4 := free_any hp7 4
        have pf5 := free_any hp7 5
        have zf0 := free_any hk7 0
        have zf1 := free_any hk7 1
        have zf2 := free_any hk7 2
        have zf3 := free_any hk7 3
        have zf4 := free_any hk7 4
        have zf5 := free_any hk7 5
        have hl4 := lt_of_block hp7
        have hl0 := lt_of_block hk7
        clear hp7 hk7 hqr hRr
        go_wp2_with fail
        refine bodyPost_ret (v := .agg #[.string nm, .bool true, .int .i64 0, .slice a nb c, .bool yn, .string ys]) (by simp [results, Tryz.results136, go_sem, z0, z1, z2, z3, z4, z5, hk2, p0, p1, p2, p3, p4, p5, hl4, hl0]) rfl ?_
        rw [HA.out]
        refine ⟨a, nb, c, rfl, ?_, ?_, ?_⟩
        · refine OwnLt.body (B := q + 1) ?_ |>.mono (fun k hk => by omega)
          repeat refine OwnLt.set ?_ (by omega)
          exact HO7.out
        · repeat refine RdAt.set L R ?_ (by omega)
          exact HR7.out
        · repeat refine only_self ?_ (by omega) _ _
          exact HG7.out
end Go.Proofs.YtmhloapjadhifaaGreatDoor

namespace Go.Proofs.YtmhloapjadhifaaGreatDoor
set_option linter.unusedVariables false
set_option linter.unusedSimpArgs false
open Go Go.RowKit

/-- Block R holds the base's three rows, which lie, with the bodies, in blocks from B on; no two share a block. -/
structure BsIn (w : World) (B R : Nat) (b : Bs) (pv rv qv : Value) : Prop where
  box : w.heap[R]? = some (.cells #[pv, rv, qv] 26 (0, 0))
  lt : R < B
  p : OwnPm w B pv b.prems
  r : OwnRu w B (fun k => B ≤ k ∧ pv.ownBlock ≠ some k ∧ qv.ownBlock ≠ some k) rv b.rules
  q : OwnPr w B qv b.proms
  pr : ∀ g, pv.ownBlock = some g → rv.ownBlock ≠ some g
  pq : ∀ g, pv.ownBlock = some g → qv.ownBlock ≠ some g
  rq : ∀ g, rv.ownBlock = some g → qv.ownBlock ≠ some g

theorem shape_own {w : World} {B : Nat} {e : TypeId} {k : Nat} {v : Value} {n : Nat} {xs : List Value} (h : w.ownsRow B e k v n xs) : ∃ (a : Option Addr) (c : Nat), v = .slice a n c ∧ n ≤ c ∧ c ≤ maxLen := by
  rcases h.2 with ⟨rfl, rfl⟩ | ⟨g, cap, cur, rfl, -, -, h1, h2, -⟩
  · exact ⟨none, 0, rfl, Nat.le_refl _, Nat.zero_le _⟩
  · exact ⟨_, cap, rfl, h1, h2⟩

section
variable {w w' : World} {B R : Nat} {b : Bs} {pv rv qv : Value}
theorem BsIn.go (h : BsIn w B R b pv rv qv) (hb : Below w.heap.size w w') : BsIn w' B R b pv rv qv := by
  have hk := fun k (hk : k < w.heap.size) => hb.block k hk
  exact ⟨blk_kept2 h.box hb, h.lt, owns_kept h.p fun g e => hk g (owns_blk h.p g e).2, h.r.kept (fun g e => hk g (h.r.blk g e).2) (fun k _ hl => hk k hl) hb.size (fun k hS _ => hS), owns_kept h.q fun g e => hk g (owns_blk h.q g e).2, h.pr, h.pq, h.rq⟩
theorem BsIn.base (h : BsIn w B R b pv rv qv) : BaseAt w (.agg #[pv, rv, qv]) b := ⟨pv, rv, qv, rfl, OwnPm.at_ h.p, h.r.at_, OwnPr.at_ h.q⟩

/-- What append of one premise, rule, promotion and the store behind it give. -/
theorem BsIn.addP {pv' : Value} {p : Pm} (h : BsIn w B R b pv rv qv) (h2 : w'.ownsRow B 64 5 pv' (b.prems.length + 1) (b.prems.flatMap encPm ++ encPm p)) (hg : w.grownBy w' pv.ownBlock) (hbl : pv'.ownBlock = pv.ownBlock ∨ pv'.ownBlock = some w.heap.size) :
    BsIn (w'.setCell ⟨R, 0, none⟩ pv') B R ⟨b.prems ++ [p], b.rules, b.proms⟩ pv' rv qv := by
  have hne : ∀ g, pv.ownBlock = some g → g ≠ R := fun g e => by have := (owns_blk h.p g e).1; have := h.lt; omega
  have hset : ∀ k, k ≠ R → (w'.setCell ⟨R, 0, none⟩ pv').heap[k]? = w'.heap[k]? := fun k hk => Below.heap_setCell w' ⟨R, 0, none⟩ pv' k hk
  have hbox : w'.heap[R]? = some (.cells #[pv, rv, qv] 26 (0, 0)) := (hg.block R (lt_of_block h.box) (fun e => hne R e.symm rfl)).trans h.box
  have hnew : ∀ k, k < w.heap.size → pv.ownBlock ≠ some k → pv'.ownBlock ≠ some k := fun k hk hp e => by
    rcases hbl with e2 | e2
    · exact hp (by rw [← e2, e])
    · rw [e2] at e; injection e with e; omega
  have hsame : ∀ k, k < w.heap.size → pv.ownBlock ≠ some k → k ≠ R → (w'.setCell ⟨R, 0, none⟩ pv').heap[k]? = w.heap[k]? := fun k hk hp hR => (hset k hR).trans (hg.block k hk (fun e => hp e.symm))
  refine ⟨setB pv' hbox, h.lt, ?_, ?_, ?_, ?_, ?_, h.rq⟩
  · exact owns_kept (OwnPm.snoc h2) fun g e => hset g (by
      have hlt := h.lt
      have := (owns_blk h2 g e).1
      omega)
  · refine h.r.kept (fun g e => hsame g (h.r.blk g e).2 (fun e2 => h.pr g e2 e) (by have := (h.r.blk g e).1; have := h.lt; omega)) (fun k hS hl => hsame k hl hS.2.1 (by have := hS.1; have := h.lt; omega)) (by rw [size_setCell]; exact hg.size) (fun k hS hl => ⟨hS.1, hnew k hl hS.2.1, hS.2.2⟩)
  · exact owns_kept h.q fun g e => hsame g (owns_blk h.q g e).2 (fun e2 => h.pq g e2 e) (by have := (owns_blk h.q g e).1; have := h.lt; omega)
  · intro g e e2
    exact hnew g (h.r.blk g e2).2 (fun e3 => h.pr g e3 e2) e
  · intro g e e2
    exact hnew g (owns_blk h.q g e2).2 (fun e3 => h.pq g e3 e2) e
theorem BsIn.addQ {qv' : Value} {p : Pr} (h : BsIn w B R b pv rv qv) (h2 : w'.ownsRow B 68 4 qv' (b.proms.length + 1) (b.proms.flatMap encPr ++ encPr p)) (hg : w.grownBy w' qv.ownBlock) (hbl : qv'.ownBlock = qv.ownBlock ∨ qv'.ownBlock = some w.heap.size) :
    BsIn (w'.setCell ⟨R, 2, none⟩ qv') B R ⟨b.prems, b.rules, b.proms ++ [p]⟩ pv rv qv' := by
  have hne : ∀ g, qv.ownBlock = some g → g ≠ R := fun g e => by have := (owns_blk h.q g e).1; have := h.lt; omega
  have hset : ∀ k, k ≠ R → (w'.setCell ⟨R, 2, none⟩ qv').heap[k]? = w'.heap[k]? := fun k hk => Below.heap_setCell w' ⟨R, 2, none⟩ qv' k hk
  have hbox : w'.heap[R]? = some (.cells #[pv, rv, qv] 26 (0, 0)) := (hg.block R (lt_of_block h.box) (fun e => hne R e.symm rfl)).trans h.box
  have hnew : ∀ k, k < w.heap.size → qv.ownBlock ≠ some k → qv'.ownBlock ≠ some k := fun k hk hp e => by
    rcases hbl with e2 | e2
    · exact hp (by rw [← e2, e])
    · rw [e2] at e; injection e with e; omega
  have hsame : ∀ k, k < w.heap.size → qv.ownBlock ≠ some k → k ≠ R → (w'.setCell ⟨R, 2, none⟩ qv').heap[k]? = w.heap[k]? := fun k hk hp hR => (hset k hR).trans (hg.block k hk (fun e => hp e.symm))
  refine ⟨setB qv' hbox, h.lt, ?_, ?_, ?_, h.pr, ?_, ?_⟩
  · exact owns_kept h.p fun g e => hsame g (owns_blk h.p g e).2 (h.pq g e) (by have := (owns_blk h.p g e).1; have := h.lt; omega)
  · refine h.r.kept (fun g e => hsame g (h.r.blk g e).2 (h.rq g e) (by have := (h.r.blk g e).1; have := h.lt; omega)) (fun k hS hl => hsame k hl hS.2.2 (by have := hS.1; have := h.lt; omega)) (by rw [size_setCell]; exact hg.size) (fun k hS hl => ⟨hS.1, hS.2.1, hnew k hl hS.2.2⟩)
  · exact owns_kept (OwnPr.snoc h2) fun g e => hset g (by
      have hlt := h.lt
      have := (owns_blk h2 g e).1
      omega)
  · intro g e
    exact hnew g (owns_blk h.p g e).2 (h.pq g e)
  · intro g e
    exact hnew g (h.r.blk g e).2 (h.rq g e)
theorem BsIn.addR {rv' bv : Value} {r : Ru} (h : BsIn w B R b pv rv qv) {bs : List Value} (hl : bs.length = b.rules.length)
    (hf : ∀ i (h : i < b.rules.length) (h' : i < bs.length), BodyIn w (fun k => (B ≤ k ∧ pv.ownBlock ≠ some k ∧ qv.ownBlock ≠ some k) ∧ rv.ownBlock ≠ some k) bs[i] b.rules[i].body)
    (h2 : w'.ownsRow B 66 6 rv' (b.rules.length + 1) (((b.rules.zip bs).flatMap fun x => encRu x.1 x.2) ++ encRu r bv)) (hg : w.grownBy w' rv.ownBlock) (hbl : rv'.ownBlock = rv.ownBlock ∨ rv'.ownBlock = some w.heap.size)
    (hb : BodyIn w (fun k => (B ≤ k ∧ pv.ownBlock ≠ some k ∧ qv.ownBlock ≠ some k) ∧ rv.ownBlock ≠ some k) bv r.body) :
    BsIn (w'.setCell ⟨R, 1, none⟩ rv') B R ⟨b.prems, b.rules ++ [r], b.proms⟩ pv rv' qv := by
  have hne : ∀ g, rv.ownBlock = some g → g ≠ R := fun g e => by have := (h.r.blk g e).1; have := h.lt; omega
  have hset : ∀ k, k ≠ R → (w'.setCell ⟨R, 1, none⟩ rv').heap[k]? = w'.heap[k]? := fun k hk => Below.heap_setCell w' ⟨R, 1, none⟩ rv' k hk
  have hbox : w'.heap[R]? = some (.cells #[pv, rv, qv] 26 (0, 0)) := (hg.block R (lt_of_block h.box) (fun e => hne R e.symm rfl)).trans h.box
  have hnew : ∀ k, k < w.heap.size → rv.ownBlock ≠ some k → rv'.ownBlock ≠ some k := fun k hk hp e => by
    rcases hbl with e2 | e2
    · exact hp (by rw [← e2, e])
    · rw [e2] at e; injection e with e; omega
  have hsame : ∀ k, k < w.heap.size → rv.ownBlock ≠ some k → k ≠ R → (w'.setCell ⟨R, 1, none⟩ rv').heap[k]? = w.heap[k]? := fun k hk hp hR => (hset k hR).trans (hg.block k hk (fun e => hp e.symm))
  have hR := OwnRu.snoc hl hf h2 hg hbl hb
  refine ⟨setB rv' hbox, h.lt, ?_, ?_, ?_, ?_, h.pq, ?_⟩
  · exact owns_kept h.p fun g e => hsame g (owns_blk h.p g e).2 (h.pr g e) (by have := (owns_blk h.p g e).1; have := h.lt; omega)
  · refine hR.kept (fun g e => hset g (by have := (hR.blk g e).1; have := h.lt; omega)) (fun k hS hl => hset k (by have := hS.1; have := h.lt; omega)) (by rw [size_setCell]; exact Nat.le_refl _) (fun k hS hl => hS)
  · exact owns_kept h.q fun g e => hsame g (owns_blk h.q g e).2 (fun e2 => h.rq g e2 e) (by have := (owns_blk h.q g e).1; have := h.lt; omega)
  · intro g e
    exact hnew g (owns_blk h.p g e).2 (h.pr g e)
  · intro g e e2
    exact hnew g (owns_blk h.q g e2).2 (fun e3 => h.rq g e3 e2) e
end
theorem BsIn.new (w : World) : BsIn (w.alloc (.cells #[.slice none 0 0, .slice none 0 0, .slice none 0 0] 26)) (w.heap.size + 1) w.heap.size ⟨[], [], []⟩ (.slice none 0 0) (.slice none 0 0) (.slice none 0 0) :=
  ⟨heap_alloc_new w _, by omega, OwnPm.nil _ _, OwnRu.nil _ _ _, OwnPr.nil _ _, fun g e => by simp [Value.ownBlock] at e, fun g e => by simp [Value.ownBlock] at e, fun g e => by simp [Value.ownBlock] at e⟩

/-- append of one element, with the block of what it hands back. -/
theorem step_append_sb {w : World} {ops : Array Oper} {o : Oper} {a : Act} {K : Act → World → Prop} {Q : Exit → Act → World → Prop} {E : Prop} (hgd : o.guard = none) (s x : Operand) {T e : TypeId} {k by' : Nat} (hE : ElemOf T e k by')
    (ho : o.op = .call { callee := .builtin .append, args := #[s, x], argTypes := #[T, T] }) (B : Nat) (v : Value) (n : Nat) (xs : List Value) (hs : a.eval s = v) (hown : w.ownsRow B e k v n xs)
    (m c1 : Nat) (hx : a.eval x = .slice (some ⟨m, 0, none⟩) 1 c1) (cs : Array Value) (tm : TypeId) (hm : w.heap[m]? = some (.cells cs tm (0, 0))) (hcs : cs.size = k) (hone : ∀ u ∈ cs.toList, u.oneCell' = true) (hlen : n ≤ 1000000) (hB : B ≤ w.heap.size)
    (h : ∀ g cap w', w'.ownsRow B e k (.slice (some ⟨g, 0, none⟩) (n + 1) cap) (n + 1) (xs ++ cs.toList) → w.grownBy w' v.ownBlock → ((Value.slice (some ⟨g, 0, none⟩) (n + 1) cap).ownBlock = v.ownBlock ∨ (Value.slice (some ⟨g, 0, none⟩) (n + 1) cap).ownBlock = some w.heap.size) → K (a.put o.dst (.slice (some ⟨g, 0, none⟩) (n + 1) cap)) w') :
    if Region.wanted o (yielded ops a.tmps) = true then Oper.wp Tryz.prog o a w K Q else E :=
  step_append_one hgd s x hE ho B v n xs hs hown m c1 hx cs tm hm hcs hone hlen hB fun v' w' h1 h2 h3 => by
    obtain ⟨g, cap, rfl, hg⟩ := owns_slice h1
    exact h g cap w' h1 h2 h3
theorem one_of {l : List Value} (h : l.all (fun u => u.oneCell') = true) : ∀ u ∈ l, u.oneCell' = true := fun u hu => List.all_eq_true.1 h u hu
theorem below_grown5 {n R : Nat} {w a a' : World} (h : Below n w a) (hg : a.grownBy a' (some R)) (hn : n ≤ R) (hna : n ≤ a.heap.size) : Below n w a' :=
  ⟨hg.os.trans h.os, hg.tape.trans h.tape, hg.output.trans h.output, Nat.le_trans h.size hg.size, fun k hk => (hg.block k (by omega) (fun e => by injection e with e; omega)).trans (h.block k hk)⟩
end Go.Proofs.YtmhloapjadhifaaGreatDoor

namespace Go.Proofs.YtmhloapjadhifaaGreatDoor
set_option linter.unusedVariables false
set_option linter.unusedSimpArgs false
open Go Go.RowKit

/-- The first error of k, or 0. -/
def errUp (f : Nat → Int) : Nat → Int
  | 0 => 0
  | k + 1 => if errUp f k = 0 then f k else errUp f k
theorem errUp_stop {f : Nat → Int} {k : Nat} (h0 : errUp f k = 0) (hf : f k ≠ 0) : ∀ n, k < n → errUp f n = f k
  | 0, h => absurd h (by omega)
  | n + 1, h => by
    by_cases e : k = n
    · subst e
      rw [errUp, if_pos h0]
    · have := errUp_stop h0 hf n (by omega)
      rw [errUp, this, if_neg hf]
theorem errUp_next {f : Nat → Int} {k : Nat} (h0 : errUp f k = 0) (hf : f k = 0) : errUp f (k + 1) = 0 := by rw [errUp, if_pos h0, hf]

def premF (b : Bs) (i : Nat) : Int := if h : i < b.prems.length then premE b b.prems[i] i else 0
def ruleF (b : Bs) (i : Nat) : Int := if h : i < b.rules.length then ruleE b b.rules[i] i else 0
def promF (b : Bs) (i : Nat) : Int := if h : i < b.proms.length then promE b b.proms[i] else 0
/-- The error of a rule base. -/
def baseE (b : Bs) : Int :=
  if 16 < b.prems.length ∨ 24 < b.rules.length ∨ 8 < b.proms.length then 2
  else if errUp (premF b) b.prems.length ≠ 0 then errUp (premF b) b.prems.length
  else if errUp (ruleF b) b.rules.length ≠ 0 then errUp (ruleF b) b.rules.length
  else errUp (promF b) b.proms.length

set_option maxHeartbeats 2000000 in
theorem bvalidate_any (b : Bs) (hb : BsOk b) (v : Value) (w : World) (hv : BaseAt w v b) :
    Calls Tryz.prog 19 #[v] w fun e w' => e = .returned (.int .i64 (baseE b)) ∧ Below w.heap.size w w' := by
  have HVW := hidIt hv
  obtain ⟨a1, a2, a3, c1, c2, c3, rfl, m1, n1, m2, n2, m3, n3, -, -, hq⟩ := hv.form
  have hl1 : b.prems.length ≤ 9223372036854775807 := by unfold maxLen at n1; omega
  have hl2 : b.rules.length ≤ 9223372036854775807 := by unfold maxLen at n2; omega
  have hl3 : b.proms.length ≤ 9223372036854775807 := by unfold maxLen at n3; omega
  have hgr := bgrow w (.cells #[.slice a1 b.prems.length c1, .slice a2 b.rules.length c2, .slice a3 b.proms.length c3] 26)
  have HB0 := hidIt hgr
  have HV0 := hidIt (HVW.out.below hgr)
  have HQ0 := hidIt (hq.below hgr)
  have HK0 := hidIt (heap_alloc_new w (.cells #[.slice a1 b.prems.length c1, .slice a2 b.rules.length c2, .slice a3 b.proms.length c3] 26))
  have HE : Hid (baseE b = if 16 < b.prems.length ∨ 24 < b.rules.length ∨ 8 < b.proms.length then 2
    else if errUp (premF b) b.prems.length ≠ 0 then errUp (premF b) b.prems.length
    else if errUp (ruleF b) b.rules.length ≠ 0 then errUp (ruleF b) b.rules.length
    else errUp (promF b) b.proms.length) := by show _ = _; rfl
  generalize baseE b = E at *
  clear hv hgr HVW m1 m2 m3 n1 n2 hq
  by_cases hbig : 16 < b.prems.length ∨ 24 < b.rules.length ∨ 8 < b.proms.length
  case pos =>
    have HE2 : Hid (E = 2) := by show _ = _; rw [HE.out, if_pos hbig]
    clear HE
    by_cases h1 : 16 < b.prems.length
    · have h1I : (16 : Int) < (b.prems.length : Int) := by omega
      clear hbig h1
      go_enter Tryz.func19, Tryz.ntmps19
      go_wp2_with fail
      go_ret
      exact ⟨ret_int HE2.out.symm, HB0.out⟩
    by_cases h2 : 24 < b.rules.length
    · have h1I : ¬ (16 : Int) < (b.prems.length : Int) := by omega
      have h2I : (24 : Int) < (b.rules.length : Int) := by omega
      clear hbig h1 h2
      go_enter Tryz.func19, Tryz.ntmps19
      go_wp2_with fail
      go_ret
      exact ⟨ret_int HE2.out.symm, HB0.out⟩
    · have h1I : ¬ (16 : Int) < (b.prems.length : Int) := by omega
      have h2I : ¬ (24 : Int) < (b.rules.length : Int) := by omega
      have h3I : (8 : Int) < (b.proms.length : Int) := by omega
      clear hbig h1 h2
      go_enter Tryz.func19, Tryz.ntmps19
      go_wp2_with fail
      go_ret
      exact ⟨ret_int HE2.out.symm, HB0.out⟩
  case neg =>
  have h1I : ¬ (16 : Int) < (b.prems.length : Int) := by omega
  have h2I : ¬ (24 : Int) < (b.rules.length : Int) := by omega
  have h3I : ¬ (8 : Int) < (b.proms.length : Int) := by omega
  have HE2 : Hid (E = if errUp (premF b) b.prems.length ≠ 0 then errUp (premF b) b.prems.length
    else if errUp (ruleF b) b.rules.length ≠ 0 then errUp (ruleF b) b.rules.length
    else errUp (promF b) b.proms.length) := by show _ = _; rw [HE.out, if_neg hbig]
  clear HE hbig
  have HEa : Hid (∀ k, k < b.prems.length → errUp (premF b) k = 0 → premF b k ≠ 0 → E = premF b k) := fun k hk h0 hf => by
    have := errUp_stop h0 hf _ hk
    rw [HE2.out, if_pos (by rw [this]; exact hf), this]
  have HEb : Hid (errUp (premF b) b.prems.length = 0 → ∀ k, k < b.rules.length → errUp (ruleF b) k = 0 → ruleF b k ≠ 0 → E = ruleF b k) := fun hz k hk h0 hf => by
    have := errUp_stop h0 hf _ hk
    rw [HE2.out, if_neg (fun h => h hz), if_pos (by rw [this]; exact hf), this]
  have HEc : Hid (errUp (premF b) b.prems.length = 0 → errUp (ruleF b) b.rules.length = 0 → E = errUp (promF b) b.proms.length) := fun hz hy => by
    rw [HE2.out, if_neg (fun h => h hz), if_neg (fun h => h hy)]
  clear HE2
  have HP1 : Hid (∀ k (hk : k < b.prems.length), premF b k = premE b b.prems[k] k) := fun k hk => dif_pos hk
  have HP2 : Hid (∀ k (hk : k < b.rules.length), ruleF b k = ruleE b b.rules[k] k) := fun k hk => dif_pos hk
  have HP3 : Hid (∀ k (hk : k < b.proms.length), promF b k = promE b b.proms[k]) := fun k hk => dif_pos hk
  generalize premF b = f1 at *
  generalize ruleF b = f2 at *
  generalize promF b = f3 at *
  go_enter Tryz.func19, Tryz.ntmps19
  go_wp2_with fail
  generalize (w.alloc (.cells #[.slice a1 b.prems.length c1, .slice a2 b.rules.length c2, .slice a3 b.proms.length c3] 26)) = w0 at *
  go_loopw [3, 4, 29] (fun _ _ i wr => ∃ k : Nat, k ≤ b.prems.length ∧ i = .int .i64 k ∧ Hid (Below w0.heap.size w0 wr) ∧ Hid (errUp f1 k = 0)) (fun _ _ i _ => b.prems.length - (intOf i).toNat)
  case atStart => exact ⟨0, Nat.zero_le _, rfl, Below.refl _ _, rfl⟩
  case round =>
    obtain ⟨k, hk, rfl, HBr, HF⟩ := hrel
    have HKr := hidIt (blk_kept2 HK0.out HBr.out)
    obtain ⟨k0, k1, k2⟩ := bcell3 HKr.out
    have lk := lt_of_block HKr.out
    by_cases hlt : k < b.prems.length
    · have hkr := hlt
      have hltI : (k : Int) < (b.prems.length : Int) := by omega
      have hk0 : (0 : Int) ≤ (k : Int) := by omega
      go_wp2_with fail
      refine (valPrem_any b hb _ k hkr wr (HV0.out.below HBr.out)).mono ?_
      rintro e w1 ⟨rfl, hb1⟩
      rw [← HP1.out k hkr]
      have HB1 := hidIt (HBr.out.trans (Below.mono hb1 HBr.out.size))
      have HBW := hidIt (HB0.out.trans (Below.mono HB1.out HB0.out.size))
      clear hb1 k0 k1 k2 lk HKr
      by_cases hz : f1 k = 0
      · rw [hz]
        go_wp2_with fail
        go_roundw
        case rel => exact ⟨k + 1, by omega, by go_num, HB1, errUp_next HF.out hz⟩
        case measure => simp [intOf]; omega
      · have hzb : (f1 k == 0) = false := beq_eq_false_iff_ne.2 hz
        have HEE := hidIt (HEa.out k hkr HF.out hz)
        go_wp2_with fail
        go_ret
        exact ⟨ret_int HEE.out.symm, HBW.out⟩
    · obtain rfl : k = b.prems.length := by omega
      have HEb2 := hidIt (HEb.out HF.out)
      have HEc2 := hidIt (HEc.out HF.out)
      have HB2 := hidIt (HB0.out.trans (Below.mono HBr.out HB0.out.size))
      have HV2 := hidIt (HV0.out.below HBr.out)
      have HQ2 := hidIt (HQ0.out.below HBr.out)
      clear HEa HEb HEc HB0 HV0 HQ0 HK0 HF HBr
      go_wp2_with fail
      clear k0 k1 k2 lk
      generalize hwA : wr = wA at *
      clear hwA
      go_loopw [5, 6, 42] (fun _ _ i ws => ∃ k : Nat, k ≤ b.rules.length ∧ i = .int .i64 k ∧ Hid (Below wA.heap.size wA ws) ∧ Hid (errUp f2 k = 0)) (fun _ _ i _ => b.rules.length - (intOf i).toNat)
      case atStart => exact ⟨0, Nat.zero_le _, rfl, Below.refl _ _, rfl⟩
      case round =>
        obtain ⟨k, hk, rfl, HBs, HF⟩ := hrel
        have HKs := hidIt (blk_kept2 HKr.out HBs.out)
        obtain ⟨k0, k1, k2⟩ := bcell3 HKs.out
        have lk := lt_of_block HKs.out
        by_cases hlt : k < b.rules.length
        · have hkr := hlt
          have hltI : (k : Int) < (b.rules.length : Int) := by omega
          have hk0 : (0 : Int) ≤ (k : Int) := by omega
          go_wp2_with fail
          refine (valRule_any b hb _ k hkr wr (HV2.out.below HBs.out)).mono ?_
          rintro e w1 ⟨rfl, hb1⟩
          rw [← HP2.out k hkr]
          have HB1 := hidIt (HBs.out.trans (Below.mono hb1 HBs.out.size))
          have HBW := hidIt (HB2.out.trans (Below.mono HB1.out HB2.out.size))
          clear hb1 k0 k1 k2 lk HKs
          by_cases hz : f2 k = 0
          · rw [hz]
            go_wp2_with fail
            go_roundw
            case rel => exact ⟨k + 1, by omega, by go_num, HB1, errUp_next HF.out hz⟩
            case measure => simp [intOf]; omega
          · have hzb : (f2 k == 0) = false := beq_eq_false_iff_ne.2 hz
            have HEE := hidIt (HEb2.out k hkr HF.out hz)
            go_wp2_with fail
            go_ret
            exact ⟨ret_int HEE.out.symm, HBW.out⟩
        · obtain rfl : k = b.rules.length := by omega
          have HEc3 := hidIt (HEc2.out HF.out)
          have HB3 := hidIt (HB2.out.trans (Below.mono HBs.out HB2.out.size))
          have HV3 := hidIt (HV2.out.below HBs.out)
          have HQ3 := hidIt (HQ2.out.below HBs.out)
          clear HEb2 HEc2 HB2 HV2 HQ2 HKr HF HBs
          go_wp2_with fail
          clear k0 k1 k2 lk
          generalize hwB : wr = wB at *
          clear hwB
          have HROW := hidIt (RowIn.form HQ3.out)
          go_loopw [8, 9, 55] (fun _ _ i ws => ∃ k : Nat, k ≤ b.proms.length ∧ i = .int .i64 k ∧ Hid (Below wB.heap.size wB ws) ∧ Hid (errUp f3 k = 0)) (fun _ _ i _ => b.proms.length - (intOf i).toNat)
          case atStart => exact ⟨0, Nat.zero_le _, rfl, Below.refl _ _, rfl⟩
          case round =>
            obtain ⟨k, hk, rfl, HBt, HF⟩ := hrel
            by_cases hlt : k < b.proms.length
            · have hkr := hlt
              have hltI : (k : Int) < (b.proms.length : Int) := by omega
              have hk0 : (0 : Int) ≤ (k : Int) := by omega
              obtain ⟨a3', c3', e2, -, -, hrow⟩ := HROW.out
              injection e2 with e2 e3 e4
              subst e2 e4
              obtain ⟨bb, off, rfl, hbl, d0', d1', d2', d3'⟩ := hrow k hkr
              have hgr := bgrow wr (.cells #[.string b.proms[k].rule, .int .i64 b.proms[k].rank, .bool b.proms[k].lit.neg, .string b.proms[k].lit.name] 68)
              have d0 := (HBt.out.cell (p := ⟨bb, off + k * 4, none⟩) hbl).trans d0'
              have d1 := (HBt.out.cell (p := ⟨bb, off + k * 4 + 1, none⟩) hbl).trans d1'
              have d2 := (HBt.out.cell (p := ⟨bb, off + k * 4 + 2, none⟩) hbl).trans d2'
              have d3 := (HBt.out.cell (p := ⟨bb, off + k * 4 + 3, none⟩) hbl).trans d3'
              have hbl2 := Nat.lt_of_lt_of_le hbl HBt.out.size
              have HBu := hidIt (HBt.out.trans (Below.mono hgr HBt.out.size))
              have HKt := hidIt (blk_kept2 HKs.out HBu.out)
              obtain ⟨k0, k1, k2⟩ := bcell3 HKt.out
              have lk := lt_of_block HKt.out
              clear hrow d0' d1' d2' d3' hgr hbl
              have hpo := hb.2.2 _ (List.getElem_mem hkr)
              go_wp2_with fail
              refine (valProm_any b _ b.proms[k] hpo _ (HV3.out.below HBu.out)).mono ?_
              rintro e w1 ⟨rfl, hb1⟩
              rw [← HP3.out k hkr]
              have HB1 := hidIt (HBu.out.trans (Below.mono hb1 HBu.out.size))
              have HBW := hidIt (HB3.out.trans (Below.mono HB1.out HB3.out.size))
              clear hb1 k0 k1 k2 lk HKt d0 d1 d2 d3 hbl2
              by_cases hz : f3 k = 0
              · rw [hz]
                go_wp2_with fail
                go_roundw
                case rel => exact ⟨k + 1, by omega, by go_num, HB1, errUp_next HF.out hz⟩
                case measure => simp [intOf]; omega
              · have hzb : (f3 k == 0) = false := beq_eq_false_iff_ne.2 hz
                have HEE : Hid (E = f3 k) := by show _ = _; rw [HEc3.out, errUp_stop HF.out hz _ hkr]
                go_wp2_with fail
                go_ret
                exact ⟨ret_int HEE.out.symm, HBW.out⟩
            · obtain rfl : k = b.proms.length := by omega
              have HEE : Hid (E = 0) := by show _ = _; rw [HEc3.out, HF.out]
              have HBW := hidIt (HB3.out.trans (Below.mono HBt.out HB3.out.size))
              go_wp2_with fail
              go_ret
              exact ⟨ret_int HEE.out.symm, HBW.out⟩

end Go.Proofs.YtmhloapjadhifaaGreatDoor

namespace Go.Proofs.YtmhloapjadhifaaGreatDoor
set_option linter.unusedVariables false
set_option linter.unusedSimpArgs false
open Go Go.RowKit

def litT (x : Lt) : ByteArray := fmtB x.neg x.name
def digT (n : Nat) : ByteArray := ⟨(Lib.decDigits n).toArray⟩
def isV (x : Value) : Value → World → Prop := fun v _ => v = x
theorem isV_up (x : Value) : GoesUp (isV x) := fun _ _ _ _ h => h

theorem dig_size (n : Nat) (h : n < 10) : (digT n).size = 1 := by
  unfold digT
  rw [Lib.decDigits_one h]
  rfl
theorem lit_size {x : Lt} (h : x.name.size ≤ 12) : (litT x).size ≤ 13 := by
  unfold litT fmtB
  cases vn x.name
  · exact Nat.zero_le _
  · cases x.neg
    · exact Nat.le_trans h (by decide)
    · show ((⟨#[126]⟩ : ByteArray) ++ x.name).size ≤ 13
      rw [ByteArray.size_append]
      have : (⟨#[126]⟩ : ByteArray).size = 1 := rfl
      omega

/-- The line of a promotion. -/
def promT (p : Pr) (n : Nat) : ByteArray := ⟨#[112, 114, 111, 109, 111, 116, 101, 32]⟩ ++ p.rule ++ ⟨#[32]⟩ ++ digT n ++ ⟨#[32, 105, 102, 32]⟩ ++ litT p.lit

set_option maxRecDepth 100000 in
set_option maxHeartbeats 2000000 in
theorem promLine_any (p : Pr) (n : Nat) (hn : n < 10) (hr : p.rank = (n : Int)) (h1 : p.rule.size ≤ 12) (h2 : p.lit.name.size ≤ 12) (w : World) :
    Calls Tryz.prog 128 #[.agg #[.string p.rule, .int .i64 p.rank, .bool p.lit.neg, .string p.lit.name]] w fun e w' => e = .returned (.string (promT p n)) ∧ Below w.heap.size w w' := by
  obtain ⟨rl, rk, ⟨g, s⟩⟩ := p
  simp only at hr h1 h2 ⊢
  subst hr
  have HT : Hid (promT ⟨rl, n, ⟨g, s⟩⟩ n = ⟨#[112, 114, 111, 109, 111, 116, 101, 32]⟩ ++ rl ++ ⟨#[32]⟩ ++ digT n ++ ⟨#[32, 105, 102, 32]⟩ ++ litT ⟨g, s⟩) := by show _ = _; rfl
  generalize promT ⟨rl, n, ⟨g, s⟩⟩ n = T at *
  have HB := hidIt (bgrow w (.cells #[.string rl, .int .i64 (n : Int), .bool g, .string s] 68))
  have HK := hidIt (heap_alloc_new w (.cells #[.string rl, .int .i64 (n : Int), .bool g, .string s] 68))
  have hds := dig_size n hn
  have hls := lit_size (x := ⟨g, s⟩) h2
  have HI : Hid (∀ wx : World, Calls Tryz.prog 163 #[.int .i64 (n : Int)] wx fun e w' => e = .returned (.string (digT n)) ∧ w' = wx) := fun wx => Tryz.strconv_Itoa_small n (by omega) wx
  have HM : Hid (∀ wx : World, Calls Tryz.prog 162 #[.agg #[.bool g, .string s]] wx fun e w' => e = .returned (.string (litT ⟨g, s⟩)) ∧ Below wx.heap.size wx w') := fun wx => format_any g s wx (Nat.le_trans h2 (by unfold maxLen; omega))
  generalize digT n = d at *
  generalize litT ⟨g, s⟩ = t at *
  have q1 : ¬ 9223372036854775807 < 8 + rl.size := by omega
  have q2 : ¬ 9223372036854775807 < 8 + rl.size + 1 := by omega
  have q3 : ¬ 9223372036854775807 < 8 + rl.size + 1 + d.size := by omega
  have q4 : ¬ 9223372036854775807 < 8 + rl.size + 1 + d.size + 4 := by omega
  have q5 : ¬ 9223372036854775807 < 8 + rl.size + 1 + d.size + 4 + t.size := by omega
  clear hds hls
  go_enter Tryz.func128, Tryz.ntmps128
  go_wp2_with fail
  generalize (w.alloc (.cells #[.string rl, .int .i64 (n : Int), .bool g, .string s] 68)) = w2 at *
  obtain ⟨p0, p1, p2, p3⟩ := bcell4 HK.out
  have lp := lt_of_block HK.out
  have X0 : ∀ wx, Ext w2 wx → wx.cell? ⟨w.heap.size, 0, none⟩ = some (.string rl) := fun wx hC => ext_cell p0 lp hC
  have X1 : ∀ wx, Ext w2 wx → wx.cell? ⟨w.heap.size, 1, none⟩ = some (.int .i64 (n : Int)) := fun wx hC => ext_cell p1 lp hC
  have X2 : ∀ wx, Ext w2 wx → wx.cell? ⟨w.heap.size, 2, none⟩ = some (.bool g) := fun wx hC => ext_cell p2 lp hC
  have X3 : ∀ wx, Ext w2 wx → wx.cell? ⟨w.heap.size, 3, none⟩ = some (.string s) := fun wx hC => ext_cell p3 lp hC
  have H1 : Hid (∀ wx, Ext w2 wx → Calls Tryz.prog 163 #[.int .i64 (n : Int)] wx fun e w'' => ∃ u, e = .returned u ∧ Ext w2 w'' ∧ Grows wx w'' ∧ isV (.string d) u w'') := fun wx hC => rel_call hC ((HI.out wx).mono fun e w'' ⟨he, hw⟩ => ⟨_, he, rfl, by rw [hw]; exact Below.refl _ _⟩)
  have H2 : Hid (∀ wx, Ext w2 wx → Calls Tryz.prog 162 #[.agg #[.bool g, .string s]] wx fun e w'' => ∃ u, e = .returned u ∧ Ext w2 w'' ∧ Grows wx w'' ∧ isV (.string t) u w'') := fun wx hC => rel_call hC ((HM.out wx).mono fun e w'' ⟨he, hb⟩ => ⟨_, he, rfl, hb⟩)
  clear p0 p1 p2 p3
  haveI : Nonempty (In (Ext w2)) := Ext.nonempty w2
  refine wp_region_rel (Ext w2) Grows (relTab [(9, isV (.string d)), (14, isV (.string t))]) (by kernel_rfl) (by kernel_rfl) (by kernel_rfl) (stable_cons (isV_up _) (stable_cons (isV_up _) (stable_nil _))) (Ext.start w2) ?_
  repeat (
    refine' walkR_plain (by kernel_rfl) rfl rfl (fun wx hC hL => ?_) ?_
    rotate_left
    · (have hlw := Nat.lt_of_lt_of_le lp (Below.size hC)
       simp only [X0 wx hC, X1 wx hC, X2 wx hC, X3 wx hC, hlw, go_sem]; first | done | (go_simp; exact ⟨rfl, rfl⟩))
    simp only [Act.put, List.setIfInBounds_toArray, List.set_cons_zero, List.set_cons_succ])
  refine walkR_rel (by kernel_rfl) rfl rfl (of_decide_eq_true (by kernel_rfl)) (fun wx hC hL => ?_) (fun v hv => ?_)
  · go_simp
    exact H1.out wx hC
  obtain ⟨_, _, rfl⟩ := hv
  simp only [Act.put, List.setIfInBounds_toArray, List.set_cons_zero, List.set_cons_succ]
  repeat (
    refine' walkR_plain (by kernel_rfl) rfl rfl (fun wx hC hL => ?_) ?_
    rotate_left
    · (have hlw := Nat.lt_of_lt_of_le lp (Below.size hC)
       simp only [X0 wx hC, X1 wx hC, X2 wx hC, X3 wx hC, hlw, go_sem]; first | done | (go_simp; exact ⟨rfl, rfl⟩))
    simp only [Act.put, List.setIfInBounds_toArray, List.set_cons_zero, List.set_cons_succ])
  refine walkR_rel (by kernel_rfl) rfl rfl (of_decide_eq_true (by kernel_rfl)) (fun wx hC hL => ?_) (fun v hv => ?_)
  · go_simp
    exact H2.out wx hC
  obtain ⟨_, _, rfl⟩ := hv
  simp only [Act.put, List.setIfInBounds_toArray, List.set_cons_zero, List.set_cons_succ]
  repeat (
    refine' walkR_plain (by kernel_rfl) rfl rfl (fun wx hC hL => ?_) ?_
    rotate_left
    · (have hlw := Nat.lt_of_lt_of_le lp (Below.size hC)
       simp only [X0 wx hC, X1 wx hC, X2 wx hC, X3 wx hC, hlw, go_sem]; first | done | (go_simp; exact ⟨rfl, rfl⟩))
    simp only [Act.put, List.setIfInBounds_toArray, List.set_cons_zero, List.set_cons_succ])
  refine fun w3 hC3 _ => ?_
  have HB3 := hidIt (HB.out.trans (Below.mono hC3 HB.out.size))
  clear hC3 X0 X1 X2 X3 H1 H2 lp
  go_wp2_with fail
  go_ret
  refine ⟨?_, HB3.out⟩
  rw [HT.out]
  rfl

end Go.Proofs.YtmhloapjadhifaaGreatDoor

namespace Go.Proofs.YtmhloapjadhifaaGreatDoor
set_option linter.unusedVariables false
set_option linter.unusedSimpArgs false
open Go.RowKit

theorem ret_str' {a b : ByteArray} (h : a = b) : Ending.returned (.string a) = .returned (.string b) := by rw [h]

/-- Block b is a row of these strings. -/
def StrRow (w : World) (b : Nat) (l : List ByteArray) : Prop := w.heap[b]? = some (.cells (l.map Value.string).toArray 9 (0, 0))

theorem setCell_heap_self {w : World} {b k : Nat} {c : Array Value} {t : TypeId} (h : w.heap[b]? = some (.cells c t (0, 0))) (x : Value) : (w.setCell ⟨b, k, none⟩ x).heap[b]? = some (.cells (c.setIfInBounds k x) t (0, 0)) := by
  have hlt := lt_of_block h
  have h' : w.heap[b] = .cells c t (0, 0) := by simpa [Array.getElem?_eq_getElem hlt] using h
  show (w.heap.modify b _)[b]? = _
  rw [Array.getElem?_eq_getElem (by simpa using hlt), Array.getElem_modify_self, h']
  rfl

section
variable {w w' : World} {b : Nat} {l : List ByteArray}
theorem StrRow.lt (h : StrRow w b l) : b < w.heap.size := lt_of_block h
theorem StrRow.cell (h : StrRow w b l) (k : Nat) (hk : k < l.length) : w.cell? ⟨b, k, none⟩ = some (.string l[k]) := by
  unfold StrRow at h
  simp [World.cell?, h, hk]
theorem StrRow.free (h : StrRow w b l) (k : Nat) : w.frozen? ⟨b, k, none⟩ = false := free_any h k
theorem StrRow.set (h : StrRow w b l) (k : Nat) (s : ByteArray) : StrRow (w.setCell ⟨b, k, none⟩ (.string s)) b (l.set k s) := by
  unfold StrRow
  rw [setCell_heap_self h]
  simp
theorem StrRow.kept (h : StrRow w b l) (hb : Below w.heap.size w w') : StrRow w' b l := blk_kept2 h hb
theorem StrRow.alloc (h : StrRow w b l) (o : Obj) : StrRow (w.alloc o) b l := h.kept ((Below.refl _ _).alloc (Nat.le_refl _) o)
theorem StrRow.made (w : World) (n : Nat) : StrRow (w.alloc (.cells (madeCells #[.string ⟨#[]⟩] n) 9)) w.heap.size (List.replicate n ⟨#[]⟩) := by
  unfold StrRow
  rw [heap_alloc_new]
  have e : madeCells #[.string ⟨#[]⟩] n = ((List.replicate n (⟨#[]⟩ : ByteArray)).map Value.string).toArray := by
    apply Array.ext
    · simp [madeCells]
    · intro i h1 h2
      simp [madeCells, Nat.mod_one]
  rw [e]
end

theorem infoS' : (Tryz.prog.info? 9).map (fun i => (i.zero, i.size, i.bytes)) = some (some (.string ⟨#[]⟩), 1, 16) := by kernel_rfl

theorem make_strs' (n : Nat) (hn : n ≤ 1000000000) (w : World) : (Instr.makeSlice 52 (.int .i64 (n : Int)) (.int .i64 (n : Int))).run Tryz.prog w = .ok (.slice (some ⟨w.heap.size, 0, none⟩) n n) (w.alloc (.cells (madeCells #[.string ⟨#[]⟩] n) 9)) := by
  obtain ⟨i0, hi, hz0, hz1, hz2⟩ := info_parts infoS'
  have hr := run_make (P := Tryz.prog) w 52 9 i0 _ Tryz.underlying52 hi hz0 .i64 .i64 (n : Int) (n : Int) (by omega) (by omega) (by rw [hz2]; omega) (by omega)
  rw [hz1] at hr
  simp only [Int.toNat_natCast, Nat.mul_one] at hr
  exact hr
end Go.Proofs.YtmhloapjadhifaaGreatDoor

namespace Go.Proofs.YtmhloapjadhifaaGreatDoor
set_option linter.unusedVariables false
set_option linter.unusedSimpArgs false
open Go Go.RowKit

def joinT (sep : ByteArray) (l : List ByteArray) : ByteArray := ⟨(Lib.join (l.map (·.data.toList)) sep.data.toList).toArray⟩
/-- The text of a body, with the space behind it. -/
def bodyT (xs : List Lt) : ByteArray := if xs.length = 0 then ⟨#[]⟩ else joinT ⟨#[44, 32]⟩ (xs.map litT) ++ ⟨#[32]⟩

theorem joinTail_len (sep : List UInt8) (m : Nat) (l : List (List UInt8)) (h : ∀ x ∈ l, x.length ≤ m) : (Lib.joinTail sep l).length ≤ l.length * (m + sep.length) := by
  induction l with
  | nil => simp [Lib.joinTail]
  | cons x r ih =>
    have h1 := h x (by simp)
    have h2 := ih (fun z hz => h z (by simp [hz]))
    have e : (Lib.joinTail sep (x :: r)).length = sep.length + x.length + (Lib.joinTail sep r).length := by simp [Lib.joinTail]; try omega
    rw [e, List.length_cons, Nat.add_mul, Nat.one_mul]
    omega
theorem join_len (sep : List UInt8) (m : Nat) (l : List (List UInt8)) (h : ∀ x ∈ l, x.length ≤ m) : (Lib.join l sep).length ≤ l.length * (m + sep.length) := by
  cases l with
  | nil => simp [Lib.join]
  | cons x r =>
    have h1 := h x (by simp)
    have h2 := joinTail_len sep m r (fun z hz => h z (by simp [hz]))
    have e : (Lib.join (x :: r) sep).length = x.length + (Lib.joinTail sep r).length := by
      rw [Lib.join_cons, List.length_append]
    rw [e, List.length_cons, Nat.add_mul, Nat.one_mul]
    omega

theorem take_set_snoc5 {α : Type} (l p : List α) (k : Nat) (x : α) (hl : k < l.length) (hp : k < p.length) (hx : x = p[k]) (h : l.take k = p.take k) : (l.set k x).take (k + 1) = p.take (k + 1) := by
  rw [List.take_add_one, List.take_add_one, List.take_set_of_le (Nat.le_refl k), h, List.getElem?_set_self hl, List.getElem?_eq_getElem hp, hx]

set_option maxRecDepth 100000 in
set_option maxHeartbeats 1000000 in
theorem bodyText_any (xs : List Lt) (hx : ∀ x ∈ xs, x.name.size ≤ 12) (hn : xs.length ≤ 5000) (v : Value) (w : World) (hv : BodyAt w v xs) :
    Calls Tryz.prog 164 #[v] w fun e w' => e = .returned (.string (bodyT xs)) ∧ Below w.heap.size w w' := by
  obtain ⟨a, cap, rfl, hlen, hcap, hrow⟩ := hv.form
  have HR := hidIt hrow
  have HX := hidIt hx
  have hl1 : xs.length ≤ 9223372036854775807 := by omega
  clear hv hrow hx
  by_cases h0 : xs.length = 0
  · have HE : Hid (bodyT xs = ⟨#[]⟩) := by show _ = _; unfold bodyT; rw [if_pos h0]
    generalize bodyT xs = T at *
    rw [h0] at hlen ⊢
    clear HR HX
    go_enter Tryz.func164, Tryz.ntmps164
    go_wp2_with fail
    go_ret
    exact ⟨by rw [HE.out]; rfl, Below.refl _ _⟩
  have HE : Hid (bodyT xs = joinT ⟨#[44, 32]⟩ (xs.map litT) ++ ⟨#[32]⟩) := by show _ = _; unfold bodyT; rw [if_neg h0]
  generalize bodyT xs = T at *
  have hb0 : (((xs.length : Nat) : Int) == 0) = false := by rw [beq_eq_false_iff_ne]; omega
  have h0I : ¬ ((xs.length : Nat) : Int) = 0 := by omega
  have hmk := fun w => make_strs' xs.length (by omega) w
  obtain ⟨parts, hparts⟩ : ∃ p, p = xs.map litT := ⟨_, rfl⟩
  have hpl : parts.length = xs.length := by rw [hparts, List.length_map]
  have HPK : Hid (∀ k (h1 : k < parts.length) (h2 : k < xs.length), parts[k] = litT xs[k]) := by
    intro k h1 h2
    subst hparts
    simp only [List.getElem_map]
  have HPS : Hid ((Lib.join (parts.map (·.data.toList)) (⟨#[44, 32]⟩ : ByteArray).data.toList).length ≤ 75000) := by
    have := join_len (⟨#[44, 32]⟩ : ByteArray).data.toList 13 (parts.map (·.data.toList)) (fun y hy => by
      obtain ⟨z, hz, rfl⟩ := List.mem_map.1 hy
      rw [hparts] at hz
      obtain ⟨x, hx, rfl⟩ := List.mem_map.1 hz
      have := lit_size (HX.out x hx)
      show (litT x).data.toList.length ≤ 13
      rw [Array.length_toList]
      exact this)
    have e2 : (⟨#[44, 32]⟩ : ByteArray).data.toList.length = 2 := rfl
    rw [e2, List.length_map, hpl] at this
    show _ ≤ _
    omega
  rw [← hparts] at HE
  clear hparts h0
  go_enter Tryz.func164, Tryz.ntmps164
  go_wp2_with fail
  go_loopw [4, 5, 14] (fun _ _ i wr => ∃ (k : Nat) (l : List ByteArray), k ≤ xs.length ∧ i = .int .i64 k ∧ Hid (l.length = xs.length) ∧ Hid (l.take k = parts.take k) ∧ Hid (StrRow wr w.heap.size l) ∧ Hid (Below w.heap.size w wr)) (fun _ _ i _ => xs.length - (intOf i).toNat)
  case atStart => exact ⟨0, List.replicate xs.length ⟨#[]⟩, Nat.zero_le _, rfl, by show _ = _; simp, by show _ = _; simp, StrRow.made w _, (Below.refl _ _).alloc (Nat.le_refl _) _⟩
  case round =>
    clear hmk
    obtain ⟨k, l, hk, rfl, hll, hlk, hrow, hbel⟩ := hrel
    by_cases hlt : k < xs.length
    · obtain ⟨b, off, rfl, hbl, c0', c1'⟩ := HR.out k hlt
      have c0 := (hbel.out.cell (p := ⟨b, off + k * 2, none⟩) hbl).trans c0'
      have c1 := (hbel.out.cell (p := ⟨b, off + k * 2 + 1, none⟩) hbl).trans c1'
      have hbl2 := Nat.lt_of_lt_of_le hbl hbel.out.size
      have hltI : (k : Int) < (xs.length : Int) := by omega
      have hk0 : (0 : Int) ≤ (k : Int) := by omega
      have HPk := hidIt (HPK.out k (by omega) hlt)
      have hxs := HX.out _ (List.getElem_mem hlt)
      have hgr := bgrow wr (.cells #[.bool xs[k].neg, .string xs[k].name] 28)
      have HRW := hidIt (hrow.out.kept hgr)
      have HBB := hidIt (hbel.out.trans (hgr.mono hbel.out.size))
      clear c0' c1' hbl hgr
      go_wp2_with fail
      refine (format_any xs[k].neg xs[k].name _ (Nat.le_trans hxs (by unfold maxLen; omega))).mono ?_
      rintro e w1 ⟨rfl, hb1⟩
      have hrow' := HRW.out.kept hb1
      have HRR := hidIt hrow'
      have s0 := hrow'.cell k (by rw [hll.out]; exact hlt)
      have f0 := hrow'.free k
      have hsz := hrow'.lt
      have HB := hidIt (HBB.out.trans (hb1.mono HBB.out.size))
      clear hb1 hrow' c0 c1 hbl2
      go_wp2_with fail
      go_roundw
      case rel =>
        exact ⟨k + 1, l.set k (litT xs[k]), by omega, by go_num, by show _ = _; rw [List.length_set]; exact hll.out,
          take_set_snoc5 l parts k _ (by rw [hll.out]; exact hlt) (by omega) HPk.out.symm hlk.out, HRR.out.set k _, HB.out.setCell (Nat.le_refl _) _⟩
      case measure => simp [intOf]; omega
    · have hkn : k = xs.length := by omega
      have hlp : Hid (l = parts) := by
        have := hlk.out
        rwa [List.take_of_length_le (by rw [hll.out]; omega), List.take_of_length_le (by omega)] at this
      have hrow' := hrow.out
      rw [hlp.out] at hrow'
      have HJ := hidIt (Tryz.strings_Join w.heap.size 0 xs.length parts ⟨#[44, 32]⟩ wr (fun j x hj => by
        obtain ⟨hj1, hj2⟩ := List.getElem?_eq_some_iff.1 hj
        rw [Nat.zero_add, ← hj2]
        exact hrow'.cell j hj1) hrow'.lt (by omega) (by omega) (Nat.le_trans HPS.out (by omega)))
      rw [hpl] at HJ
      have HJ2 : Hid (Calls Tryz.prog 193 #[.slice (some ⟨w.heap.size, 0, none⟩) xs.length xs.length, .string ⟨#[44, 32]⟩] wr fun e w' => e = .returned (.string (joinT ⟨#[44, 32]⟩ parts)) ∧ Below wr.heap.size wr w') := HJ.out
      have HZ : Hid ((joinT ⟨#[44, 32]⟩ parts).size ≤ 75000) := by
        show (Lib.join _ _).toArray.size ≤ 75000
        rw [List.size_toArray]
        exact HPS.out
      generalize joinT ⟨#[44, 32]⟩ parts = J at *
      have hJz := HZ.out
      have hJ1 : ¬ 9223372036854775807 < J.size + 1 := by omega
      clear hrow' hkn HJ
      go_wp2_with fail
      refine HJ2.out.mono ?_
      rintro e w2 ⟨rfl, hb2⟩
      have HB2 := hidIt (hbel.out.trans (hb2.mono hbel.out.size))
      clear hb2
      go_wp2_with fail
      go_ret
      refine ⟨?_, HB2.out⟩
      rw [HE.out]
      rfl

end Go.Proofs.YtmhloapjadhifaaGreatDoor

namespace Go.Proofs.YtmhloapjadhifaaGreatDoor
set_option linter.unusedVariables false
set_option linter.unusedSimpArgs false
open Go Go.RowKit

/-- The line of a rule with a rank of one digit. -/
def ruleT (r : Ru) (n : Nat) : ByteArray :=
  (if r.strict then (⟨#[115, 116, 114, 105, 99, 116, 32]⟩ : ByteArray) ++ r.name else (⟨#[114, 117, 108, 101, 32]⟩ : ByteArray) ++ r.name ++ ⟨#[32]⟩ ++ digT n) ++ ⟨#[58, 32]⟩ ++ bodyT r.body ++ (if r.strict then (⟨#[45, 62]⟩ : ByteArray) else ⟨#[61, 62]⟩) ++ ⟨#[32]⟩ ++ litT r.head

theorem bodyT_size (xs : List Lt) (hx : ∀ x ∈ xs, x.name.size ≤ 12) (hn : xs.length ≤ 5000) : (bodyT xs).size ≤ 80000 := by
  unfold bodyT
  by_cases h0 : xs.length = 0
  · rw [if_pos h0]; exact Nat.zero_le _
  · rw [if_neg h0, ByteArray.size_append]
    have := join_len (⟨#[44, 32]⟩ : ByteArray).data.toList 13 ((xs.map litT).map (·.data.toList)) (fun y hy => by
      obtain ⟨z, hz, rfl⟩ := List.mem_map.1 hy
      obtain ⟨x, hx', rfl⟩ := List.mem_map.1 hz
      have := lit_size (hx x hx')
      show (litT x).data.toList.length ≤ 13
      rw [Array.length_toList]
      exact this)
    have e2 : (⟨#[44, 32]⟩ : ByteArray).data.toList.length = 2 := rfl
    rw [e2, List.length_map, List.length_map] at this
    have e3 : (joinT ⟨#[44, 32]⟩ (xs.map litT)).size = (Lib.join ((xs.map litT).map (·.data.toList)) (⟨#[44, 32]⟩ : ByteArray).data.toList).length := by
      show (Lib.join _ _).toArray.size = _
      rw [List.size_toArray]
    have e4 : (⟨#[32]⟩ : ByteArray).size = 1 := rfl
    omega

set_option maxRecDepth 100000 in
set_option maxHeartbeats 2000000 in
theorem ruleLine_any (r : Ru) (n : Nat) (hn : n < 10) (hr : r.rank = (n : Int)) (h1 : r.name.size ≤ 12) (h2 : r.head.name.size ≤ 12) (h3 : ∀ x ∈ r.body, x.name.size ≤ 12) (h4 : r.body.length ≤ 5000) (a : Option Addr) (cap : Nat) (w : World) (hv : BodyAt w (.slice a r.body.length cap) r.body) :
    Calls Tryz.prog 127 #[.agg #[.string r.name, .bool r.strict, .int .i64 r.rank, .slice a r.body.length cap, .bool r.head.neg, .string r.head.name]] w fun e w' => e = .returned (.string (ruleT r n)) ∧ Below w.heap.size w w' := by
  obtain ⟨nm, st, rk, xs, ⟨hg, hs⟩⟩ := r
  simp only at hr h1 h2 h3 h4 hv ⊢
  subst hr
  have HV := hidIt hv
  have hgr := bgrow w (.cells #[.string nm, .bool st, .int .i64 (n : Int), .slice a xs.length cap, .bool hg, .string hs] 66)
  have HB := hidIt hgr
  have HY := hidIt (hv.below hgr)
  have HK := hidIt (heap_alloc_new w (.cells #[.string nm, .bool st, .int .i64 (n : Int), .slice a xs.length cap, .bool hg, .string hs] 66))
  have hds := dig_size n hn
  have hls := lit_size (x := ⟨hg, hs⟩) h2
  have hbs := bodyT_size xs h3 h4
  have HT : Hid (ruleT ⟨nm, st, n, xs, ⟨hg, hs⟩⟩ n = (if st then (⟨#[115, 116, 114, 105, 99, 116, 32]⟩ : ByteArray) ++ nm else (⟨#[114, 117, 108, 101, 32]⟩ : ByteArray) ++ nm ++ ⟨#[32]⟩ ++ digT n) ++ ⟨#[58, 32]⟩ ++ bodyT xs ++ (if st then (⟨#[45, 62]⟩ : ByteArray) else ⟨#[61, 62]⟩) ++ ⟨#[32]⟩ ++ litT ⟨hg, hs⟩) := by show _ = _; rfl
  generalize ruleT ⟨nm, st, n, xs, ⟨hg, hs⟩⟩ n = T at *
  have HI : Hid (∀ wx : World, Calls Tryz.prog 163 #[.int .i64 (n : Int)] wx fun e w' => e = .returned (.string (digT n)) ∧ w' = wx) := fun wx => Tryz.strconv_Itoa_small n (by omega) wx
  have HM : Hid (∀ wx : World, Calls Tryz.prog 162 #[.agg #[.bool hg, .string hs]] wx fun e w' => e = .returned (.string (litT ⟨hg, hs⟩)) ∧ Below wx.heap.size wx w') := fun wx => format_any hg hs wx (Nat.le_trans h2 (by unfold maxLen; omega))
  have HBT : Hid (∀ wx : World, BodyAt wx (.slice a xs.length cap) xs → Calls Tryz.prog 164 #[.slice a xs.length cap] wx fun e w' => e = .returned (.string (bodyT xs)) ∧ Below wx.heap.size wx w') := fun wx h => bodyText_any xs h3 h4 _ wx h
  generalize digT n = d at *
  generalize litT ⟨hg, hs⟩ = t at *
  generalize bodyT xs = y at *
  clear hv hgr
  have q1 : ¬ 9223372036854775807 < 5 + nm.size := by omega
  have q2 : ¬ 9223372036854775807 < 5 + nm.size + 1 := by omega
  have q3 : ¬ 9223372036854775807 < 5 + nm.size + 1 + d.size := by omega
  have q4 : ¬ 9223372036854775807 < 7 + nm.size := by omega
  have r1 : ¬ 9223372036854775807 < 5 + nm.size + 1 + d.size + 2 := by omega
  have r2 : ¬ 9223372036854775807 < 5 + nm.size + 1 + d.size + 2 + y.size := by omega
  have r3 : ¬ 9223372036854775807 < 5 + nm.size + 1 + d.size + 2 + y.size + 2 := by omega
  have r4 : ¬ 9223372036854775807 < 5 + nm.size + 1 + d.size + 2 + y.size + 2 + 1 := by omega
  have r5 : ¬ 9223372036854775807 < 5 + nm.size + 1 + d.size + 2 + y.size + 2 + 1 + t.size := by omega
  have t1 : ¬ 9223372036854775807 < 7 + nm.size + 2 := by omega
  have t2 : ¬ 9223372036854775807 < 7 + nm.size + 2 + y.size := by omega
  have t3 : ¬ 9223372036854775807 < 7 + nm.size + 2 + y.size + 2 := by omega
  have t4 : ¬ 9223372036854775807 < 7 + nm.size + 2 + y.size + 2 + 1 := by omega
  have t5 : ¬ 9223372036854775807 < 7 + nm.size + 2 + y.size + 2 + 1 + t.size := by omega
  clear hds hls hbs
  go_enter Tryz.func127, Tryz.ntmps127
  go_wp2_with fail
  generalize (w.alloc (.cells #[.string nm, .bool st, .int .i64 (n : Int), .slice a xs.length cap, .bool hg, .string hs] 66)) = w2 at *
  obtain ⟨p0, p1, p2, p3, p4, p5⟩ := bcell6 HK.out
  have lp := lt_of_block HK.out
  have X0 : ∀ wx, Ext w2 wx → wx.cell? ⟨w.heap.size, 0, none⟩ = some (.string nm) := fun wx hC => ext_cell p0 lp hC
  have X1 : ∀ wx, Ext w2 wx → wx.cell? ⟨w.heap.size, 1, none⟩ = some (.bool st) := fun wx hC => ext_cell p1 lp hC
  have X2 : ∀ wx, Ext w2 wx → wx.cell? ⟨w.heap.size, 2, none⟩ = some (.int .i64 (n : Int)) := fun wx hC => ext_cell p2 lp hC
  have X3 : ∀ wx, Ext w2 wx → wx.cell? ⟨w.heap.size, 3, none⟩ = some (.slice a xs.length cap) := fun wx hC => ext_cell p3 lp hC
  have X4 : ∀ wx, Ext w2 wx → wx.cell? ⟨w.heap.size, 4, none⟩ = some (.bool hg) := fun wx hC => ext_cell p4 lp hC
  have X5 : ∀ wx, Ext w2 wx → wx.cell? ⟨w.heap.size, 5, none⟩ = some (.string hs) := fun wx hC => ext_cell p5 lp hC
  have H1 : Hid (∀ wx, Ext w2 wx → Calls Tryz.prog 163 #[.int .i64 (n : Int)] wx fun e w'' => ∃ u, e = .returned u ∧ Ext w2 w'' ∧ Grows wx w'' ∧ isV (.string d) u w'') := fun wx hC => rel_call hC ((HI.out wx).mono fun e w'' ⟨he, hw⟩ => ⟨_, he, rfl, by rw [hw]; exact Below.refl _ _⟩)
  clear p0 p1 p2 p3 p4 p5
  haveI : Nonempty (In (Ext w2)) := Ext.nonempty w2
  refine wp_region_rel (Ext w2) Grows (relTab [(11, isV (.string d))]) (by kernel_rfl) (by kernel_rfl) (by kernel_rfl) (stable_cons (isV_up _) (stable_nil _)) (Ext.start w2) ?_
  repeat (
    refine' walkR_plain (by kernel_rfl) rfl rfl (fun wx hC hL => ?_) ?_
    rotate_left
    · (have hlw := Nat.lt_of_lt_of_le lp (Below.size hC)
       simp only [X0 wx hC, X1 wx hC, X2 wx hC, X3 wx hC, X4 wx hC, X5 wx hC, hlw, go_sem]; first | done | (go_simp; exact ⟨rfl, rfl⟩))
    simp only [Act.put, List.setIfInBounds_toArray, List.set_cons_zero, List.set_cons_succ])
  refine walkR_rel (by kernel_rfl) rfl rfl (of_decide_eq_true (by kernel_rfl)) (fun wx hC hL => ?_) (fun v hv => ?_)
  · go_simp
    exact H1.out wx hC
  obtain ⟨_, _, rfl⟩ := hv
  simp only [Act.put, List.setIfInBounds_toArray, List.set_cons_zero, List.set_cons_succ]
  repeat (
    refine' walkR_plain (by kernel_rfl) rfl rfl (fun wx hC hL => ?_) ?_
    rotate_left
    · (have hlw := Nat.lt_of_lt_of_le lp (Below.size hC)
       simp only [X0 wx hC, X1 wx hC, X2 wx hC, X3 wx hC, X4 wx hC, X5 wx hC, hlw, go_sem]; first | done | (go_simp; exact ⟨rfl, rfl⟩))
    simp only [Act.put, List.setIfInBounds_toArray, List.set_cons_zero, List.set_cons_succ])
  refine fun w3 hC3 _ => ?_
  have HB3 := hidIt (HB.out.trans (Below.mono hC3 HB.out.size))
  have HY3 := hidIt (HY.out.below hC3)
  have HK3 := hidIt (blk_kept2 HK.out hC3)
  clear hC3 X0 X1 X2 X3 X4 X5 H1 lp HB HY HK
  obtain ⟨p0, p1, p2, p3, p4, p5⟩ := bcell6 HK3.out
  have lp := lt_of_block HK3.out
  have X0 : ∀ wx, Ext w3 wx → wx.cell? ⟨w.heap.size, 0, none⟩ = some (.string nm) := fun wx hC => ext_cell p0 lp hC
  have X1 : ∀ wx, Ext w3 wx → wx.cell? ⟨w.heap.size, 1, none⟩ = some (.bool st) := fun wx hC => ext_cell p1 lp hC
  have X2 : ∀ wx, Ext w3 wx → wx.cell? ⟨w.heap.size, 2, none⟩ = some (.int .i64 (n : Int)) := fun wx hC => ext_cell p2 lp hC
  have X3 : ∀ wx, Ext w3 wx → wx.cell? ⟨w.heap.size, 3, none⟩ = some (.slice a xs.length cap) := fun wx hC => ext_cell p3 lp hC
  have X4 : ∀ wx, Ext w3 wx → wx.cell? ⟨w.heap.size, 4, none⟩ = some (.bool hg) := fun wx hC => ext_cell p4 lp hC
  have X5 : ∀ wx, Ext w3 wx → wx.cell? ⟨w.heap.size, 5, none⟩ = some (.string hs) := fun wx hC => ext_cell p5 lp hC
  have H1 : Hid (∀ wx, Ext w3 wx → Calls Tryz.prog 164 #[.slice a xs.length cap] wx fun e w'' => ∃ u, e = .returned u ∧ Ext w3 w'' ∧ Grows wx w'' ∧ isV (.string y) u w'') := fun wx hC => rel_call hC ((HBT.out wx (HY3.out.below hC)).mono fun e w'' ⟨he, hb⟩ => ⟨_, he, rfl, hb⟩)
  have H2 : Hid (∀ wx, Ext w3 wx → Calls Tryz.prog 162 #[.agg #[.bool hg, .string hs]] wx fun e w'' => ∃ u, e = .returned u ∧ Ext w3 w'' ∧ Grows wx w'' ∧ isV (.string t) u w'') := fun wx hC => rel_call hC ((HM.out wx).mono fun e w'' ⟨he, hb⟩ => ⟨_, he, rfl, hb⟩)
  haveI : Nonempty (In (Ext w3)) := Ext.nonempty w3
  cases st
  · go_wp2_with fail
    refine wp_region_rel (Ext w3) Grows (relTab [(22, isV (.string y)), (29, isV (.string t))]) (by kernel_rfl) (by kernel_rfl) (by kernel_rfl) (stable_cons (isV_up _) (stable_cons (isV_up _) (stable_nil _))) (Ext.start w3) ?_
    repeat (
      refine' walkR_plain (by kernel_rfl) rfl rfl (fun wx hC hL => ?_) ?_
      rotate_left
      · (have hlw := Nat.lt_of_lt_of_le lp (Below.size hC)
         simp only [X0 wx hC, X1 wx hC, X2 wx hC, X3 wx hC, X4 wx hC, X5 wx hC, hlw, go_sem]; first | done | (go_simp; exact ⟨rfl, rfl⟩))
      simp only [Act.put, List.setIfInBounds_toArray, List.set_cons_zero, List.set_cons_succ])
    refine walkR_rel (by kernel_rfl) rfl rfl (of_decide_eq_true (by kernel_rfl)) (fun wx hC hL => ?_) (fun v hv => ?_)
    · go_simp
      exact H1.out wx hC
    obtain ⟨_, _, rfl⟩ := hv
    simp only [Act.put, List.setIfInBounds_toArray, List.set_cons_zero, List.set_cons_succ]
    repeat (
      refine' walkR_plain (by kernel_rfl) rfl rfl (fun wx hC hL => ?_) ?_
      rotate_left
      · (have hlw := Nat.lt_of_lt_of_le lp (Below.size hC)
         simp only [X0 wx hC, X1 wx hC, X2 wx hC, X3 wx hC, X4 wx hC, X5 wx hC, hlw, go_sem]; first | done | (go_simp; exact ⟨rfl, rfl⟩))
      simp only [Act.put, List.setIfInBounds_toArray, List.set_cons_zero, List.set_cons_succ])
    refine walkR_rel (by kernel_rfl) rfl rfl (of_decide_eq_true (by kernel_rfl)) (fun wx hC hL => ?_) (fun v hv => ?_)
    · go_simp
      exact H2.out wx hC
    obtain ⟨_, _, rfl⟩ := hv
    simp only [Act.put, List.setIfInBounds_toArray, List.set_cons_zero, List.set_cons_succ]
    repeat (
      refine' walkR_plain (by kernel_rfl) rfl rfl (fun wx hC hL => ?_) ?_
      rotate_left
      · (have hlw := Nat.lt_of_lt_of_le lp (Below.size hC)
         simp only [X0 wx hC, X1 wx hC, X2 wx hC, X3 wx hC, X4 wx hC, X5 wx hC, hlw, go_sem]; first | done | (go_simp; exact ⟨rfl, rfl⟩))
      simp only [Act.put, List.setIfInBounds_toArray, List.set_cons_zero, List.set_cons_succ])
    refine fun w4 hC4 _ => ?_
    have HB4 := hidIt (HB3.out.trans (Below.mono hC4 HB3.out.size))
    clear hC4 X0 X1 X2 X3 X4 X5 H1 H2 lp p0 p1 p2 p3 p4 p5
    go_wp2_with fail
    go_ret
    refine ⟨?_, HB4.out⟩
    rw [HT.out]
    rfl
  · go_wp2_with fail
    refine wp_region_rel (Ext w3) Grows (relTab [(22, isV (.string y)), (29, isV (.string t))]) (by kernel_rfl) (by kernel_rfl) (by kernel_rfl) (stable_cons (isV_up _) (stable_cons (isV_up _) (stable_nil _))) (Ext.start w3) ?_
    repeat (
      refine' walkR_plain (by kernel_rfl) rfl rfl (fun wx hC hL => ?_) ?_
      rotate_left
      · (have hlw := Nat.lt_of_lt_of_le lp (Below.size hC)
         simp only [X0 wx hC, X1 wx hC, X2 wx hC, X3 wx hC, X4 wx hC, X5 wx hC, hlw, go_sem]; first | done | (go_simp; exact ⟨rfl, rfl⟩))
      simp only [Act.put, List.setIfInBounds_toArray, List.set_cons_zero, List.set_cons_succ])
    refine walkR_rel (by kernel_rfl) rfl rfl (of_decide_eq_true (by kernel_rfl)) (fun wx hC hL => ?_) (fun v hv => ?_)
    · go_simp
      exact H1.out wx hC
    obtain ⟨_, _, rfl⟩ := hv
    simp only [Act.put, List.setIfInBounds_toArray, List.set_cons_zero, List.set_cons_succ]
    repeat (
      refine' walkR_plain (by kernel_rfl) rfl rfl (fun wx hC hL => ?_) ?_
      rotate_left
      · (have hlw := Nat.lt_of_lt_of_le lp (Below.size hC)
         simp only [X0 wx hC, X1 wx hC, X2 wx hC, X3 wx hC, X4 wx hC, X5 wx hC, hlw, go_sem]; first | done | (go_simp; exact ⟨rfl, rfl⟩))
      simp only [Act.put, List.setIfInBounds_toArray, List.set_cons_zero, List.set_cons_succ])
    refine walkR_rel (by kernel_rfl) rfl rfl (of_decide_eq_true (by kernel_rfl)) (fun wx hC hL => ?_) (fun v hv => ?_)
    · go_simp
      exact H2.out wx hC
    obtain ⟨_, _, rfl⟩ := hv
    simp only [Act.put, List.setIfInBounds_toArray, List.set_cons_zero, List.set_cons_succ]
    repeat (
      refine' walkR_plain (by kernel_rfl) rfl rfl (fun wx hC hL => ?_) ?_
      rotate_left
      · (have hlw := Nat.lt_of_lt_of_le lp (Below.size hC)
         simp only [X0 wx hC, X1 wx hC, X2 wx hC, X3 wx hC, X4 wx hC, X5 wx hC, hlw, go_sem]; first | done | (go_simp; exact ⟨rfl, rfl⟩))
      simp only [Act.put, List.setIfInBounds_toArray, List.set_cons_zero, List.set_cons_succ])
    refine fun w4 hC4 _ => ?_
    have HB4 := hidIt (HB3.out.trans (Below.mono hC4 HB3.out.size))
    clear hC4 X0 X1 X2 X3 X4 X5 H1 H2 lp p0 p1 p2 p3 p4 p5
    go_wp2_with fail
    go_ret
    refine ⟨?_, HB4.out⟩
    rw [HT.out]
    rfl

end Go.Proofs.YtmhloapjadhifaaGreatDoor

namespace Go.Proofs.YtmhloapjadhifaaGreatDoor
set_option linter.unusedVariables false
set_option linter.unusedSimpArgs false
open Go Go.RowKit

/-- The word of a kind. -/
def wordT (k : Int) : ByteArray := if k = 1 then ⟨#[97, 120, 105, 111, 109]⟩ else if k = 2 then ⟨#[112, 114, 101, 109, 105, 115, 101]⟩ else ⟨#[97, 115, 115, 117, 109, 101]⟩
/-- The line of a premise with a rank of one digit: its first part, with the rank, with the source. -/
def premT0 (p : Pm) : ByteArray := wordT p.kind ++ ⟨#[32]⟩ ++ litT p.lit
def premT1 (p : Pm) (n : Nat) : ByteArray := if p.kind = 2 then premT0 p ++ (⟨#[32]⟩ ++ digT n) else premT0 p
def premT (p : Pm) (n : Nat) : ByteArray := if p.src.size = 0 then premT1 p n else premT1 p n ++ (⟨#[32, 102, 114, 111, 109, 32]⟩ ++ p.src)

set_option maxRecDepth 100000 in
set_option maxHeartbeats 2000000 in
theorem premLine_any (p : Pm) (n : Nat) (hn : n < 10) (hr : p.rank = (n : Int)) (h1 : p.src.size ≤ 12) (h2 : p.lit.name.size ≤ 12) (hk : p.kind = 1 ∨ p.kind = 2 ∨ p.kind = 3) (w : World) (hw : WordsAt w) :
    Calls Tryz.prog 126 #[.agg #[.bool p.lit.neg, .string p.lit.name, .int .i64 p.kind, .int .i64 p.rank, .string p.src]] w fun e w' => e = .returned (.string (premT p n)) ∧ Below w.heap.size w w' := by
  obtain ⟨⟨g, s⟩, kd, rk, sr⟩ := p
  simp only at hr h1 h2 hk ⊢
  subst hr
  have hgr := bgrow w (.cells #[.bool g, .string s, .int .i64 kd, .int .i64 (n : Int), .string sr] 64)
  have HB := hidIt hgr
  have HW := hidIt (hw.go hgr)
  have HK := hidIt (heap_alloc_new w (.cells #[.bool g, .string s, .int .i64 kd, .int .i64 (n : Int), .string sr] 64))
  have hds := dig_size n hn
  have hls := lit_size (x := ⟨g, s⟩) h2
  have HT0 : Hid (premT0 ⟨⟨g, s⟩, kd, n, sr⟩ = wordT kd ++ ⟨#[32]⟩ ++ litT ⟨g, s⟩) := by show _ = _; rfl
  have HT : Hid (premT ⟨⟨g, s⟩, kd, n, sr⟩ n = if sr.size = 0 then (if kd = 2 then premT0 ⟨⟨g, s⟩, kd, n, sr⟩ ++ (⟨#[32]⟩ ++ digT n) else premT0 ⟨⟨g, s⟩, kd, n, sr⟩) else (if kd = 2 then premT0 ⟨⟨g, s⟩, kd, n, sr⟩ ++ (⟨#[32]⟩ ++ digT n) else premT0 ⟨⟨g, s⟩, kd, n, sr⟩) ++ (⟨#[32, 102, 114, 111, 109, 32]⟩ ++ sr)) := by show _ = _; rfl
  generalize premT ⟨⟨g, s⟩, kd, n, sr⟩ n = T at *
  generalize premT0 ⟨⟨g, s⟩, kd, n, sr⟩ = T0 at *
  have HI : Hid (∀ wx : World, Calls Tryz.prog 163 #[.int .i64 (n : Int)] wx fun e w' => e = .returned (.string (digT n)) ∧ w' = wx) := fun wx => Tryz.strconv_Itoa_small n (by omega) wx
  have HM : Hid (∀ wx : World, Calls Tryz.prog 162 #[.agg #[.bool g, .string s]] wx fun e w' => e = .returned (.string (litT ⟨g, s⟩)) ∧ Below wx.heap.size wx w') := fun wx => format_any g s wx (Nat.le_trans h2 (by unfold maxLen; omega))
  generalize digT n = d at *
  generalize litT ⟨g, s⟩ = t at *
  have q1 : ¬ 9223372036854775807 < 5 + 1 + t.size := by omega
  have q2 : ¬ 9223372036854775807 < 7 + 1 + t.size := by omega
  have q3 : ¬ 9223372036854775807 < 6 + 1 + t.size := by omega
  have q4 : ¬ 9223372036854775807 < 1 + d.size := by omega
  have s1 : ¬ 9223372036854775807 < 6 + sr.size := by omega
  have s2 : ¬ 9223372036854775807 < 5 + 1 + t.size + (6 + sr.size) := by omega
  have s3 : ¬ 9223372036854775807 < 6 + 1 + t.size + (6 + sr.size) := by omega
  have s4 : ¬ 9223372036854775807 < 7 + 1 + t.size + (1 + d.size) := by omega
  have s5 : ¬ 9223372036854775807 < 7 + 1 + t.size + (1 + d.size) + (6 + sr.size) := by omega
  have hse : sr.size = sr.toList.length := by rw [Lib.toList_data, Array.length_toList]; rfl
  clear hw hgr hds hls
  by_cases h0 : sr.size = 0
  case' pos =>
    have hl0 : sr.toList = [] := List.eq_nil_of_length_eq_zero (by omega)
    have hle : sr.toList.isEmpty = true := by rw [hl0]; rfl
  case' neg =>
    have hl0 : ¬ sr.toList = [] := fun h => h0 (by rw [hse, h]; rfl)
    have hle : sr.toList.isEmpty = false := by
      cases hc : sr.toList with
      | nil => exact absurd hc hl0
      | cons a l => rfl
  all_goals (
  clear hse
  rcases hk with rfl | rfl | rfl)
  all_goals (
  go_enter Tryz.func126, Tryz.ntmps126
  go_wp2_with fail
  generalize (w.alloc (.cells #[.bool g, .string s, .int .i64 _, .int .i64 (n : Int), .string sr] 64)) = w2 at *
  obtain ⟨p0, p1, p2, p3, p4⟩ := bcell5 HK.out
  have lp := lt_of_block HK.out
  have lg := HW.out.lt
  have X0 : ∀ wx, Ext w2 wx → wx.cell? ⟨w.heap.size, 0, none⟩ = some (.bool g) := fun wx hC => ext_cell p0 lp hC
  have X1 : ∀ wx, Ext w2 wx → wx.cell? ⟨w.heap.size, 1, none⟩ = some (.string s) := fun wx hC => ext_cell p1 lp hC
  have X2 := fun wx (hC : Ext w2 wx) => ext_cell p2 lp hC
  have X3 : ∀ wx, Ext w2 wx → wx.cell? ⟨w.heap.size, 3, none⟩ = some (.int .i64 (n : Int)) := fun wx hC => ext_cell p3 lp hC
  have X4 : ∀ wx, Ext w2 wx → wx.cell? ⟨w.heap.size, 4, none⟩ = some (.string sr) := fun wx hC => ext_cell p4 lp hC
  have Y1 := fun wx (hC : Ext w2 wx) => ext_cell HW.out.c1 lg hC
  have Y2 := fun wx (hC : Ext w2 wx) => ext_cell HW.out.c2 lg hC
  have Y3 := fun wx (hC : Ext w2 wx) => ext_cell HW.out.c3 lg hC
  have H2 : Hid (∀ wx, Ext w2 wx → Calls Tryz.prog 162 #[.agg #[.bool g, .string s]] wx fun e w'' => ∃ u, e = .returned u ∧ Ext w2 w'' ∧ Grows wx w'' ∧ isV (.string t) u w'') := fun wx hC => rel_call hC ((HM.out wx).mono fun e w'' ⟨he, hb⟩ => ⟨_, he, rfl, hb⟩)
  haveI : Nonempty (In (Ext w2)) := Ext.nonempty w2
  refine wp_region_rel (Ext w2) Grows (relTab [(11, isV (.string t))]) (by kernel_rfl) (by kernel_rfl) (by kernel_rfl) (stable_cons (isV_up _) (stable_nil _)) (Ext.start w2) ?_
  repeat (
    refine' walkR_plain (by kernel_rfl) rfl rfl (fun wx hC hL => ?_) ?_
    rotate_left
    · (have hlw := Nat.lt_of_lt_of_le lp (Below.size hC)
       have hlg := Nat.lt_of_lt_of_le lg (Below.size hC)
       simp only [X0 wx hC, X1 wx hC, X2 wx hC, X3 wx hC, X4 wx hC, Y1 wx hC, Y2 wx hC, Y3 wx hC, hlw, hlg, go_sem]; first | done | (go_simp; exact ⟨rfl, rfl⟩))
    simp only [Act.put, List.setIfInBounds_toArray, List.set_cons_zero, List.set_cons_succ])
  refine walkR_rel (by kernel_rfl) rfl rfl (of_decide_eq_true (by kernel_rfl)) (fun wx hC hL => ?_) (fun v hv => ?_)
  · go_simp
    exact H2.out wx hC
  obtain ⟨_, _, rfl⟩ := hv
  simp only [Act.put, List.setIfInBounds_toArray, List.set_cons_zero, List.set_cons_succ]
  repeat (
    refine' walkR_plain (by kernel_rfl) rfl rfl (fun wx hC hL => ?_) ?_
    rotate_left
    · (have hlw := Nat.lt_of_lt_of_le lp (Below.size hC)
       have hlg := Nat.lt_of_lt_of_le lg (Below.size hC)
       simp only [X0 wx hC, X1 wx hC, X2 wx hC, X3 wx hC, X4 wx hC, Y1 wx hC, Y2 wx hC, Y3 wx hC, hlw, hlg, go_sem]; first | done | (go_simp; exact ⟨rfl, rfl⟩))
    simp only [Act.put, List.setIfInBounds_toArray, List.set_cons_zero, List.set_cons_succ])
  refine fun w3 hC3 _ => ?_
  have HB3 := hidIt (HB.out.trans (Below.mono hC3 HB.out.size))
  have HK3 := hidIt (blk_kept2 HK.out hC3)
  clear hC3 X0 X1 X2 X3 X4 Y1 Y2 Y3 H2 lp lg p0 p1 p2 p3 p4 HB HK HW
  obtain ⟨p0, p1, p2, p3, p4⟩ := bcell5 HK3.out
  have lp := lt_of_block HK3.out
  have H0 := hidIt h0
  clear h0
  go_wp2_with fail
  try (
    refine (HI.out w3).mono ?_
    rintro e w4 ⟨rfl, hw4⟩
    subst hw4
    go_wp2_with fail)
  go_ret
  refine ⟨?_, HB3.out⟩
  first
  | (rw [HT.out, if_pos H0.out, if_neg (by decide), HT0.out]; rfl)
  | (rw [HT.out, if_pos H0.out, if_pos (by first | trivial | rfl), HT0.out]; rfl)
  | (rw [HT.out, if_neg H0.out, if_neg (by decide), HT0.out]; rfl)
  | (rw [HT.out, if_neg H0.out, if_pos (by first | trivial | rfl), HT0.out]; rfl))

end Go.Proofs.YtmhloapjadhifaaGreatDoor

namespace Go.Proofs.YtmhloapjadhifaaGreatDoor
set_option linter.unusedVariables false
set_option linter.unusedSimpArgs false
open Go Go.RowKit

theorem infoBd : (Tryz.prog.info? 140).map (·.size) = some 2 := by kernel_rfl
theorem info_bd : ∃ j, Tryz.prog.info? 140 = some j ∧ j.size = 2 := by
  have h := infoBd
  cases hj : Tryz.prog.info? 140 with
  | none => rw [hj] at h; cases h
  | some j =>
    rw [hj] at h
    exact ⟨j, rfl, by simpa using h⟩
theorem lies_bd : liesAt Tryz.prog Tryz.prog.depth 140 (2 / Tryz.prog.cellsOf 140) 0 140 1 = true := by kernel_rfl

theorem to_unsafe {w : World} {b : Nat} (hs : w.shape? b = some (140, 2)) : (convert 138 193 (.pointer (some ⟨b, 0, none⟩))).run Tryz.prog w = .ok (.pointer (some ⟨b, 0, none⟩)) w := by
  obtain ⟨j, hj, hz⟩ := info_bd
  exact Lib.run_to_unsafe w ⟨b, 0, none⟩ Tryz.underlying138 Tryz.underlying193 hj (by rw [hz]; decide) hs (by show 0 < 2; decide)
theorem from_unsafe {w : World} {b : Nat} (hs : w.shape? b = some (140, 2)) : (convert 193 138 (.pointer (some ⟨b, 0, none⟩))).run Tryz.prog w = .ok (.pointer (some ⟨b, 0, none⟩)) w := by
  obtain ⟨j, hj, hz⟩ := info_bd
  exact Lib.run_from_unsafe w ⟨b, 0, none⟩ Tryz.underlying193 Tryz.underlying138 hj hs lies_bd
theorem neq_self {w : World} {b : Nat} : (binOp .neq 138 (.pointer (some ⟨b, 0, none⟩)) (.pointer (some ⟨b, 0, none⟩))).run Tryz.prog w = .ok (.bool false) w := by
  obtain ⟨j, hj, hz⟩ := info_bd
  exact Lib.run_neq_ptr_same w ⟨b, 0, none⟩ Tryz.underlying138 hj

set_option maxRecDepth 100000 in
theorem copyCheck_fresh (B b : Nat) (bs : List Value) (w : World) (h : Lib.BuilderAt 140 5 B b (.pointer none) bs w) :
    Calls Tryz.prog 161 #[.pointer (some ⟨b, 0, none⟩)] w fun e w' => e = .returned (.tuple #[]) ∧ w' = w.setCell ⟨b, 0, none⟩ (.pointer (some ⟨b, 0, none⟩)) := by
  have c0 := h.cell0
  have f0 := h.frozen0
  have lb := h.lt
  have hs := h.shape
  have u1 := to_unsafe hs
  have u2 := from_unsafe hs
  have u3 : ∀ w : World, (binOp .neq 138 (.pointer (some ⟨b, 0, none⟩)) (.pointer (some ⟨b, 0, none⟩))).run Tryz.prog w = .ok (.bool false) w := fun w => neq_self
  clear h
  go_enter Tryz.func161, Tryz.ntmps161
  go_wp2_with fail
  rw [run_callFunc_extern Tryz.func191 (by kernel_rfl) (by kernel_rfl) (by kernel_rfl) (e := Extern.AbiNoEscape.same) (by kernel_rfl)]
  rw [Lib.run_noEscape]
  simp only [Result.andThen]
  rw [Oper.upon_value]
  go_wp2_with fail
  go_end0
  exact ⟨rfl, rfl⟩

set_option maxRecDepth 100000 in
theorem copyCheck_used (B b : Nat) (bs : List Value) (w : World) (h : Lib.BuilderAt 140 5 B b (.pointer (some ⟨b, 0, none⟩)) bs w) :
    Calls Tryz.prog 161 #[.pointer (some ⟨b, 0, none⟩)] w fun e w' => e = .returned (.tuple #[]) ∧ w' = w := by
  have c0 := h.cell0
  have lb := h.lt
  have u3 : ∀ w : World, (binOp .neq 138 (.pointer (some ⟨b, 0, none⟩)) (.pointer (some ⟨b, 0, none⟩))).run Tryz.prog w = .ok (.bool false) w := fun w => neq_self
  clear h
  go_enter Tryz.func161, Tryz.ntmps161
  go_wp2_with fail
  go_end0
  exact ⟨rfl, rfl⟩

/-- What copyCheck leaves. -/
theorem copyCheck_any (B b : Nat) (bs : List Value) (w : World) (h : Lib.IsBuilder 140 5 B b bs w) :
    Calls Tryz.prog 161 #[.pointer (some ⟨b, 0, none⟩)] w fun e w' => e = .returned (.tuple #[]) ∧ Lib.BuilderAt 140 5 B b (.pointer (some ⟨b, 0, none⟩)) bs w' ∧ Below B w w' := by
  rcases h with h | h
  · refine (copyCheck_fresh B b bs w h).mono ?_
    rintro e w' ⟨rfl, rfl⟩
    exact ⟨rfl, h.used _, (Below.refl _ _).setCell (p := ⟨b, 0, none⟩) h.1 _⟩
  · refine (copyCheck_used B b bs w h).mono ?_
    rintro e w' ⟨rfl, rfl⟩
    exact ⟨rfl, h, Below.refl _ _⟩

theorem infoB8 : (Tryz.prog.info? 5).map (fun i => (i.zero, i.size, i.bytes)) = some (some (.int .u8 0), 1, 1) := by kernel_rfl

set_option maxRecDepth 100000 in
set_option maxHeartbeats 2000000 in
/-- A text is written behind what the builder holds. -/
theorem write_any (B b : Nat) (bs : List Value) (s : ByteArray) (w : World) (h : Lib.IsBuilder 140 5 B b bs w) (hl : bs.length + s.size ≤ 1000000000) (hB : B ≤ w.heap.size) :
    Calls Tryz.prog 125 #[.pointer (some ⟨b, 0, none⟩), .string s] w fun e w' => e = .returned (.tuple #[.int .i64 s.size, .nilIface]) ∧ Lib.IsBuilder 140 5 B b (bs ++ Lib.strCells s) w' ∧ Below B w w' := by
  obtain ⟨i8, hi8, z0, z1, z2⟩ := info_parts infoB8
  have HH := hidIt h
  clear h
  go_enter Tryz.func125, Tryz.ntmps125
  go_wp2_with fail
  refine (copyCheck_any B b bs w HH.out).mono ?_
  rintro e w1 ⟨rfl, ⟨hBb, v, hblk, hown, hne⟩, hg1⟩
  have e1 : w1.cell? ⟨b, 1, none⟩ = some v := by rw [Lib.cell_of_heap hblk]; rfl
  have lb := lt_of_block hblk
  have HO := hidIt hown
  have HBK := hidIt hblk
  have HG1 := hidIt hg1
  have hB1 : B ≤ w1.heap.size := Nat.le_trans hB hg1.size
  clear HH
  go_wp2_with (at_builtin; refine Lib.wpList_append_own_string _ rfl _ _ 48 9 rfl B 5 i8 Tryz.underlying48 Tryz.underlying9 hi8 z0 z1 z2 _ _ _ rfl HO.out s rfl ?small ?fits ?low ?_)
  case small => unfold maxLen; omega
  case fits => omega
  case low => exact hB1
  intro v2 w2 hown2 hg2 _
  have hk2 : w2.heap[b]? = some (.cells #[.pointer (some ⟨b, 0, none⟩), v] 140 (0, 0)) := (hg2.block b lb (fun e => hne e.symm)).trans HBK.out
  have HB2 := hidIt (Lib.BuilderAt.put (T := 140) (e := 5) (p := .pointer (some ⟨b, 0, none⟩)) hBb hk2 (bs' := bs ++ Lib.strCells s) (by simpa [Lib.strCells_length] using hown2) (by decide))
  have HG2 := hidIt ((HG1.out.grown hg2 hB1 (fun k hk => (HO.out.lt k hk).1)).setCell (p := ⟨b, 1, none⟩) hBb v2)
  have f1 := Lib.frozen_of_heap hk2 1
  have e2 : w2.cell? ⟨b, 1, none⟩ = some v := by rw [Lib.cell_of_heap hk2]; rfl
  have lb2 := lt_of_block hk2
  obtain ⟨ad, ln, cp, rfl⟩ : ∃ ad ln cp, v2 = .slice ad ln cp := by
    rcases hown2.2 with ⟨hv, _⟩ | ⟨_, _, _, hv, _⟩
    · exact ⟨_, _, _, hv⟩
    · exact ⟨_, _, _, hv⟩
  clear hown2 hg2 hk2 hown hblk
  go_wp2_with fail
  go_ret2
  exact ⟨rfl, .inr HB2.out, HG2.out⟩

end Go.Proofs.YtmhloapjadhifaaGreatDoor
