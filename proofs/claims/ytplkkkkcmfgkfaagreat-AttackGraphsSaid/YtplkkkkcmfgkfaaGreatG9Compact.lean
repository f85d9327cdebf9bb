/- slices.Compact at a list of literals: for every list, the elements that differ from the one ahead of them; the library's own two loops are walked. -/
import Derived.Test.YtplkkkkcmfgkfaaGreatG9Row
import Derived.Deep.LoopGhost
import Derived.Laws.StructEq
namespace Go.Proofs.YtplkkkkcmfgkfaaGreat
set_option linter.unusedVariables false
set_option linter.unusedSimpArgs false
open Go.RowKit Go.Sort Go.Lib

theorem pairStruct : Tryz.prog.underlying 46 = some (.struct (Tryz.prog.fieldsOf 46)) := by kernel_rfl
theorem pairStood : Tryz.prog.stoodInHeld 46 = false := by kernel_rfl
theorem litGuard : Tryz.prog.eqGuardType Tryz.prog.depth 46 = false := by kernel_rfl
theorem eqFieldsL (g g' : Int) (s s' : Int) (w : World) : (Op.equalIn 10000 46 (.agg #[.int .i64 g, .int .i64 s]) (.agg #[.int .i64 g', .int .i64 s'])).run Tryz.prog w = .ok (decide (((g, s) : Int × Int) = (g', s'))) w := by
  have u4 := Tryz.underlying3
  have e : (decide (((g, s) : Int × Int) = (g', s'))) = ((g == g') && (s == s')) := by
    rw [Bool.eq_iff_iff]
    simp [Prod.mk.injEq]
  rw [show (10000 : Nat) = 9999 + 1 from rfl, run_equalIn_agg w 9999 46 _ _ pairStruct pairStood, e]
  simp only [Program.fieldsOf, Tryz.underlying46]
  go_simp
  by_cases h1 : g = g' <;> by_cases h2 : s = s' <;> simp [h1, h2]

theorem eqL (g g' : Int) (s s' : Int) (w : World) : (binOp .eql 46 (.agg #[.int .i64 g, .int .i64 s]) (.agg #[.int .i64 g', .int .i64 s'])).run Tryz.prog w = .ok (.bool (decide (((g, s) : Int × Int) = (g', s')))) w := by
  rw [run_eql_struct, eqFieldsL]
  rfl
theorem neL (g g' : Int) (s s' : Int) (w : World) : (binOp .neq 46 (.agg #[.int .i64 g, .int .i64 s]) (.agg #[.int .i64 g', .int .i64 s'])).run Tryz.prog w = .ok (.bool (!decide (((g, s) : Int × Int) = (g', s')))) w := by
  rw [run_neq_struct, eqFieldsL]
  rfl
theorem gdL (op : BinOp) (x y : Operand) (g g' : Int) (s s' : Int) (w : World) : (eqGuard op 46 x y (.agg #[.int .i64 g, .int .i64 s]) (.agg #[.int .i64 g', .int .i64 s'])).run Tryz.prog w = .ok () w := run_eqGuard_agg w op 46 x y _ _ litGuard

theorem store_drew {w wr : World} {n blk off : Nat} {dk : Array (Int × Int)} {i : Nat} (hi : i < dk.size) (hwr : wr = putRowK encP 2 (Sort.ahead w n) blk off dk) (x : (Int × Int)) :
    ((wr.setCell ⟨blk, off + i * 2, none⟩ (.int .i64 x.1)).setCell ⟨blk, off + i * 2 + 1, none⟩ (.int .i64 x.2)).drew = putRowK encP 2 (Sort.ahead w (n + 1)) blk off (dk.setIfInBounds i x) := by
  rw [store_row hi hwr x]
  rfl

def cptRow (d : Array (Int × Int)) : Array (Int × Int) := (cpt d ++ List.replicate (d.size - (cpt d).length) default).toArray

set_option maxHeartbeats 4000000 in
set_option maxRecDepth 1000000 in
theorem compact_any (blk off cap : Nat) (d : Array (Int × Int)) (w : World) (hH : HoldsK encP 2 w blk off d) (hsz : d.size ≤ 9223372036854775807) (hcap : d.size ≤ cap) :
    Calls Tryz.prog 16 #[.slice (some ⟨blk, off, none⟩) d.size cap] w fun e w' => e = .returned (.slice (some ⟨blk, off, none⟩) (cpt d).length cap) ∧ ∃ q, w' = putRowK encP 2 (Sort.ahead w q) blk off (cptRow d) := by
  have same : ∀ q, (∀ j, j < d.size → keeps d j = true) → (cpt d).length = d.size ∧ w.drewN q = putRowK encP 2 (Sort.ahead w q) blk off (cptRow d) := by
    intro q hall
    have e : cpt d = d.toList := by rw [cpt, compactUpTo_all d _ hall, range_map_get]
    rw [cptRow, e]
    refine ⟨by simp, ?_⟩
    simp only [Array.length_toList, Nat.sub_self, List.replicate_zero, List.append_nil, Array.toArray_toList]
    exact (putRowK_self encP 2 (Sort.ahead w q) blk off d (holdsK_ahead encP 2 w q blk off d hH)).symm
  have HS := hidIt same
  clear same
  by_cases h2 : d.size < 2
  · have HH := hidIt hH
    clear hH
    go_enter Tryz.func16, Tryz.ntmps16
    go_wp2
    go_ret
    obtain ⟨e1, e2⟩ := HS.out 0 (fun j hj => keeps_lt_one d j (by omega))
    exact ⟨by rw [e1]; rfl, 0, e2⟩
  · go_enter Tryz.func16, Tryz.ntmps16
    go_wp2
    go_loopg [3] d.size (fun g s3 wr => ∃ k q : Nat, 1 ≤ k ∧ k ≤ d.size ∧ d.size - k ≤ g ∧ s3 = .int .i64 k ∧ wr = w.drewN q ∧ ∀ j, j < k → keeps d j = true)
    case atStart => exact ⟨1, 0, Nat.le_refl _, by omega, by omega, rfl, rfl, keeps_lt_one d⟩
    case round =>
      obtain ⟨k, q, hk1, hk, hg, rfl, rfl, hall⟩ := hrel
      by_cases hlt : k < d.size
      · obtain ⟨⟨c1, f1⟩, c1', f1'⟩ := HoldsK.at0 hH hlt
        obtain ⟨⟨c0, f0⟩, c0', f0'⟩ := HoldsK.at0 hH (show k - 1 < d.size by omega)
        have A := hidIt hall
        have HH := hidIt hH
        clear hall hH
        generalize hx : d[k]! = x at c1 c1'
        generalize hy : d[k - 1]! = y at c0 c0'
        have B := hidIt (And.intro hx hy)
        clear hx hy f0 f1 f0' f1'
        obtain ⟨gx, sx⟩ := x
        obtain ⟨gy, sy⟩ := y
        simp only at c0 c0' c1 c1'
        by_cases hdup : ((gx, sx) : Int × Int) = (gy, sy)
        · injection hdup with e1 e2
          subst e1 e2
          have hq : ∀ w, (Op.equalIn 10000 46 (.agg #[.int .i64 gx, .int .i64 sx]) (.agg #[.int .i64 gx, .int .i64 sx])).run Tryz.prog w = .ok true w := fun w => by rw [eqFieldsL]; simp
          have hgd := fun (op : BinOp) (a b : Operand) (w : World) => gdL op a b gx gx sx sx w
          have hwr : IntKind.i64.wrap ((k : Int) - 1) = ((k : Int) - 1) := IntWalk.i64_in _ (by omega)
          go_wp2_with fail
          go_region
          go_wp2
          clear c0 c1 c0' c1' hq hgd hwr
          go_loopg [3, 5] d.size (fun g s3 s5 wr => ∃ (kk k2 q2 : Nat) (dk : Array (Int × Int)), s3 = .int .i64 kk ∧ s5 = .int .i64 k2 ∧ 1 ≤ k2 ∧ k + k2 ≤ d.size ∧ d.size - (k + k2) ≤ g ∧ wr = putRowK encP 2 (Sort.ahead w q2) blk off dk ∧ CompInv d (k + k2) kk dk)
          case atStart => exact ⟨k, 1, q + 1, d, rfl, rfl, Nat.le_refl _, by omega, by omega, (putRowK_self encP 2 (Sort.ahead w (q + 1)) blk off d (holdsK_ahead encP 2 w (q + 1) blk off d HH.out)).symm, CompInv.start A.out (keeps_neg (by omega) (by rw [B.out.1, B.out.2]))⟩
          case round =>
            obtain ⟨kk, k2, q2, dk, rfl, rfl, h1, hle, hg2, hwr, hI⟩ := hrel
            have hkk := hI.lt
            have hds := hI.size
            have hHk : HoldsK encP 2 wr blk off dk := by rw [hwr]; exact holdsK_putRowK encP 2 _ blk off d dk (holdsK_ahead encP 2 w q2 blk off d HH.out) hds
            have W2 := hidIt hwr
            have I2 := hidIt hI
            clear hwr
            by_cases hlt2 : k + k2 < d.size
            · obtain ⟨⟨cm, _⟩, cm', _⟩ := HoldsK.at0 hHk (show k + k2 < dk.size by omega)
              obtain ⟨⟨cp, _⟩, cp', _⟩ := HoldsK.at0 hHk (show k + k2 - 1 < dk.size by omega)
              obtain ⟨⟨ck, fk⟩, ck', fk'⟩ := HoldsK.at0 hHk (show kk < dk.size by omega)
              rw [hI.high (k + k2) (by omega), show off + (k + k2) * 2 = off + k * 2 + k2 * 2 by omega] at cm cm'
              rw [hI.high (k + k2 - 1) (by omega), show off + (k + k2 - 1) * 2 = off + k * 2 + (k2 - 1) * 2 by omega] at cp cp'
              clear hHk hI
              generalize hu : d[k + k2]! = u at cm cm'
              generalize hv : d[k + k2 - 1]! = v at cp cp'
              generalize dk[kk]! = old at ck ck'
              have C := hidIt (And.intro hu hv)
              clear hu hv
              obtain ⟨gu, su⟩ := u
              obtain ⟨gv, sv⟩ := v
              simp only at cm cm' cp cp'
              have hwr : IntKind.i64.wrap ((k2 : Int) - 1) = ((k2 : Int) - 1) := IntWalk.i64_in _ (by omega)
              by_cases huv : ((gu, su) : Int × Int) = (gv, sv)
              · injection huv with e1 e2
                subst e1 e2
                have hq : ∀ w, (Op.equalIn 10000 46 (.agg #[.int .i64 gu, .int .i64 su]) (.agg #[.int .i64 gu, .int .i64 su])).run Tryz.prog w = .ok true w := fun w => by rw [eqFieldsL]; simp
                have hgd := fun (op : BinOp) (a b : Operand) (w : World) => gdL op a b gu gu su su w
                go_wp2_with fail
                go_region
                go_wp2
                go_roundg (d.size - (k + (k2 + 1)))
                case measure => omega
                case rel => exact ⟨kk, k2 + 1, q2 + 1, dk, rfl, by go_num, by omega, by omega, Nat.le_refl _, by rw [W2.out]; rfl, I2.out.skip (keeps_neg (by omega) (by rw [C.out.1, C.out.2]))⟩
              · have hq : ∀ w, (Op.equalIn 10000 46 (.agg #[.int .i64 gu, .int .i64 su]) (.agg #[.int .i64 gv, .int .i64 sv])).run Tryz.prog w = .ok false w := fun w => by rw [eqFieldsL]; simp only [huv, decide_false]
                have hgd := fun (op : BinOp) (a b : Operand) (w : World) => gdL op a b gu gv su sv w
                have HU := hidIt huv
                clear huv
                go_wp2_with fail
                go_region
                go_wp2
                go_roundg (d.size - (k + (k2 + 1)))
                case measure => omega
                case rel => exact ⟨kk + 1, k2 + 1, q2 + 1, dk.setIfInBounds kk (gu, su), by go_num, by go_num, by omega, by omega, Nat.le_refl _, store_drew (by omega) W2.out (gu, su), by have := I2.out.keep hlt2 (keeps_pos (by rw [C.out.1, C.out.2]; exact HU.out)); rwa [C.out.1] at this⟩
            · have hend : k + k2 = d.size := by omega
              have hcl : ∀ ty, (Builtin.clear_ #[31] ty #[.slice (some ⟨blk, off + kk * 2, none⟩) (d.size - kk) (cap - kk)]).run Tryz.prog wr = .ok (.tuple #[]) (putRowK encP 2 (Sort.ahead w q2) blk off (Lib.lay dk kk (List.replicate (d.size - kk) default))) :=
                fun ty => clear_row wr ty blk off (d.size - kk) (cap - kk) (by omega) dk kk (by omega) hHk w q2 W2.out
              clear hHk hI
              go_wp2
              go_ret
              have hI := I2.out
              rw [hend] at hI
              have hlen : (cpt d).length = kk := hI.len
              refine ⟨by rw [hlen]; rfl, q2, ?_⟩
              rw [cptRow, hlen, cpt, ← hI.done default]
        · have hq : ∀ w, (Op.equalIn 10000 46 (.agg #[.int .i64 gx, .int .i64 sx]) (.agg #[.int .i64 gy, .int .i64 sy])).run Tryz.prog w = .ok false w := fun w => by rw [eqFieldsL]; simp only [hdup, decide_false]
          have hgd := fun (op : BinOp) (a b : Operand) (w : World) => gdL op a b gx gy sx sy w
          have hwr : IntKind.i64.wrap ((k : Int) - 1) = ((k : Int) - 1) := IntWalk.i64_in _ (by omega)
          have HU := hidIt hdup
          clear hdup
          go_wp2_with fail
          go_region
          go_wp2
          go_roundg (d.size - (k + 1))
          case measure => omega
          case rel =>
            refine ⟨k + 1, q + 1, by omega, by omega, Nat.le_refl _, by go_num, rfl, fun j hj => ?_⟩
            by_cases e : j = k
            · subst e
              exact keeps_pos (by rw [B.out.1, B.out.2]; exact HU.out)
            · exact A.out j (by omega)
      · have : k = d.size := by omega
        subst this
        have HH := hidIt hH
        clear hH
        go_wp2
        go_ret
        obtain ⟨e1, e2⟩ := HS.out q hall
        exact ⟨by rw [e1]; rfl, q, e2⟩
end Go.Proofs.YtplkkkkcmfgkfaaGreat
