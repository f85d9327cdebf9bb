/- The reference's reading of a line: those of promotions, and none; all together. -/
import Derived.Test.YtfcoplplkbeljaaGreatDoorZ1R5lofB

namespace Go.Proofs.YtfcoplplkbeljaaGreatDoor
set_option linter.unusedVariables false
set_option linter.unusedSimpArgs false
open Go Go.RowKit

set_option maxRecDepth 100000 in
set_option maxHeartbeats 4000000 in
theorem r5lineOf_C (s : ByteArray) (hs : s.size ≤ 4096) (hcase : (isAxiom (atW (splitW s 32) 0) || (isPrem (atW (splitW s 32) 0) || isAssume (atW (splitW s 32) 0))) = false) (hcase2 : (isStrict (atW (splitW s 32) 0) || isRule (atW (splitW s 32) 0)) = false) (w : World) :
    Calls Tryz.prog 56 #[.string s] w fun e w' => ∃ bv : Value, e = .returned (itemV (itemOf s) bv) ∧ (∀ r, itemOf s = .ru r → OwnL w' w.heap.size bv r.body) ∧ Below w.heap.size w w' := by
  have hz := splitW_size s 32
  have hpos := split_pos s 32
  have HA1 := hidIt (@item_a1 s)
  have HA2 := hidIt (@item_a2 s)
  have HA3 := hidIt (@item_a3 s)
  have HA0 := hidIt (@item_a0 s)
  have HSP := hidIt (r5split_any s 32 (by omega))
  generalize itemOf s = IT at *
  generalize splitW s 32 = ws at *
  have HWS : Hid (∀ x ∈ ws, x.size ≤ 100000) := fun x hx => by have := hz.1 x hx; omega
  have HWL : Hid (ws.length ≤ 5000) := by show _ ≤ _; omega
  have HPOS := hidIt hpos
  have HCASE := hidIt hcase
  have HCASE2 := hidIt hcase2
  clear hz hcase hcase2
  have hgr0 := bgrow w (.cells #[.int .i64 0, .bool false, .string ⟨#[]⟩, .int .i64 0, .int .i64 0, .string ⟨#[]⟩, .string ⟨#[]⟩, .bool false, .int .i64 0, .slice none 0 0, .bool false, .string ⟨#[]⟩, .string ⟨#[]⟩, .int .i64 0, .bool false, .string ⟨#[]⟩] 88)
  have HB0 := hidIt hgr0
  have HZ0 := hidIt (heap_alloc_new w (.cells #[.int .i64 0, .bool false, .string ⟨#[]⟩, .int .i64 0, .int .i64 0, .string ⟨#[]⟩, .string ⟨#[]⟩, .bool false, .int .i64 0, .slice none 0 0, .bool false, .string ⟨#[]⟩, .string ⟨#[]⟩, .int .i64 0, .bool false, .string ⟨#[]⟩] 88))
  go_enter Tryz.func56, Tryz.ntmps56
  go_wp2_with fail
  clear hgr0
  refine (HSP.out _).mono ?_
  rintro e w1 ⟨v, rfl, hown1, hb1⟩
  have HB1 := hidIt (HB0.out.trans (Below.mono hb1 HB0.out.size))
  have HZ1 := hidIt (blk_kept2 HZ0.out hb1)
  have HO1 := hidIt hown1
  obtain ⟨a, c, rfl, hc0⟩ := hown1.cells
  obtain ⟨g0, rfl, hg0, hcell0⟩ := hc0 0 hpos
  have hat0 : ws[0] = atW ws 0 := by unfold atW; rw [List.getD_eq_getElem?_getD, List.getElem?_eq_getElem hpos]; rfl
  have hcell1 : w1.cell? ⟨g0, 0, none⟩ = some (.string (atW ws 0)) := by rw [← hat0]; exact hcell0
  clear hcell0
  have hlI : (0 : Int) < (ws.length : Int) := by omega
  clear hb1 HB0 HZ0 hown1 hc0 hat0 HSP hpos
  cases ha : ((atW ws 0).toList == [97, 120, 105, 111, 109])
  · cases hp : ((atW ws 0).toList == [112, 114, 101, 109, 105, 115, 101])
    · cases hm : ((atW ws 0).toList == [97, 115, 115, 117, 109, 101])
      · have HF : Hid ((isAxiom (atW ws 0) || (isPrem (atW ws 0) || isAssume (atW ws 0))) = false) := by show _ = _; unfold isAxiom isPrem isAssume; rw [ha, hp, hm]; rfl
        cases ht : ((atW ws 0).toList == [115, 116, 114, 105, 99, 116])
        · cases hr : ((atW ws 0).toList == [114, 117, 108, 101])
          · have HF2 : Hid ((isStrict (atW ws 0) || isRule (atW ws 0)) = false) := by show _ = _; unfold isStrict isRule; rw [ht, hr]; rfl
            cases ho : ((atW ws 0).toList == [112, 114, 111, 109, 111, 116, 101])
            · have HIT : Hid (IT = .no) := HA0.out HF.out HF2.out (by unfold isPromote; rw [ho])
              go_wp2_with (refine wpList_store_mid rfl 88 (.tmp 2) (.tmp 27) rfl w.heap.size 0 #[.int .i64 0, .bool false, .string ⟨#[]⟩, .int .i64 0, .int .i64 0, .string ⟨#[]⟩, .string ⟨#[]⟩, .bool false, .int .i64 0, .slice none 0 0, .bool false, .string ⟨#[]⟩, .string ⟨#[]⟩, .int .i64 0, .bool false, .string ⟨#[]⟩] rfl rfl (there_of5 HZ1.out rfl) (by kernel_rfl) (by simp [Value.oneCell']) ?_; refine Hid.out ?_)
              have HF2 : Hid ((w1.setCells w.heap.size 0 (#[.int .i64 0, .bool false, .string ⟨#[]⟩, .int .i64 0, .int .i64 0, .string ⟨#[]⟩, .string ⟨#[]⟩, .bool false, .int .i64 0, .slice none 0 0, .bool false, .string ⟨#[]⟩, .string ⟨#[]⟩, .int .i64 0, .bool false, .string ⟨#[]⟩] : Array Value).toList).heap[w.heap.size]? = some (.cells #[.int .i64 0, .bool false, .string ⟨#[]⟩, .int .i64 0, .int .i64 0, .string ⟨#[]⟩, .string ⟨#[]⟩, .bool false, .int .i64 0, .slice none 0 0, .bool false, .string ⟨#[]⟩, .string ⟨#[]⟩, .int .i64 0, .bool false, .string ⟨#[]⟩] 88 (0, 0))) := put16_heap HZ1.out (.int .i64 0) (.bool false) (.string ⟨#[]⟩) (.int .i64 0) (.int .i64 0) (.string ⟨#[]⟩) (.string ⟨#[]⟩) (.bool false) (.int .i64 0) (.slice none 0 0) (.bool false) (.string ⟨#[]⟩) (.string ⟨#[]⟩) (.int .i64 0) (.bool false) (.string ⟨#[]⟩)
              have HBF : Hid (Below w.heap.size w (w1.setCells w.heap.size 0 (#[.int .i64 0, .bool false, .string ⟨#[]⟩, .int .i64 0, .int .i64 0, .string ⟨#[]⟩, .string ⟨#[]⟩, .bool false, .int .i64 0, .slice none 0 0, .bool false, .string ⟨#[]⟩, .string ⟨#[]⟩, .int .i64 0, .bool false, .string ⟨#[]⟩] : Array Value).toList)) := put16_below HB1.out (Nat.le_refl _) (.int .i64 0) (.bool false) (.string ⟨#[]⟩) (.int .i64 0) (.int .i64 0) (.string ⟨#[]⟩) (.string ⟨#[]⟩) (.bool false) (.int .i64 0) (.slice none 0 0) (.bool false) (.string ⟨#[]⟩) (.string ⟨#[]⟩) (.int .i64 0) (.bool false) (.string ⟨#[]⟩)
              refine hidIt ?_
              generalize (w1.setCells w.heap.size 0 (#[.int .i64 0, .bool false, .string ⟨#[]⟩, .int .i64 0, .int .i64 0, .string ⟨#[]⟩, .string ⟨#[]⟩, .bool false, .int .i64 0, .slice none 0 0, .bool false, .string ⟨#[]⟩, .string ⟨#[]⟩, .int .i64 0, .bool false, .string ⟨#[]⟩] : Array Value).toList) = w9 at *
              obtain ⟨z0, z1, z2, z3, z4, z5, z6, z7, z8, z9, za, zb, zc, zd, ze, zf⟩ := bcell16 HF2.out
              have lz := lt_of_block HF2.out
              go_wp2_with fail
              refine bodyPost_ret (v := .agg #[.int .i64 0, .bool false, .string ⟨#[]⟩, .int .i64 0, .int .i64 0, .string ⟨#[]⟩, .string ⟨#[]⟩, .bool false, .int .i64 0, .slice none 0 0, .bool false, .string ⟨#[]⟩, .string ⟨#[]⟩, .int .i64 0, .bool false, .string ⟨#[]⟩]) (by simp [results, Tryz.results56, go_sem, z0, z1, z2, z3, z4, z5, z6, z7, z8, z9, za, zb, zc, zd, ze, zf, lz]) rfl ?_
              exact ⟨.slice none 0 0, by rw [HIT.out]; rfl, fun r' h => (by rw [HIT.out] at h; cases h), HBF.out⟩
            · have HIT := hidIt (HA3.out HF.out HF2.out (by unfold isPromote; rw [ho]))
              go_wp2_with fail
              refine (r5promOf_any s ws _ _ HWS.out _ HO1.out).mono ?_
              rintro e w3 ⟨rfl, hb3⟩
              have HB3 := hidIt (HB1.out.trans (Below.mono hb3 HB1.out.size))
              have HZ3 := hidIt (blk_kept2 HZ1.out hb3)
              clear hb3
              obtain ⟨k, p, r, q, hk⟩ : ∃ k p r q, (if promK s ws = true then lineV 3 noPm noRu (.slice none 0 0) (promC ws) else line0) = lineV k p r (.slice none 0 0) q := by split <;> exact ⟨_, _, _, _, rfl⟩
              have HK : Hid (itemV IT (.slice none 0 0) = lineV k p r (.slice none 0 0) q ∧ ∀ r', IT ≠ .ru r') := by
                show _ ∧ _
                rw [HIT.out, ← hk]
                split
                · exact ⟨rfl, fun r' h => by cases h⟩
                · exact ⟨rfl, fun r' h => by cases h⟩
              rw [hk]
              clear hk
              unfold lineV
              go_wp2_with (refine wpList_store_mid rfl 88 (.tmp 2) (.tmp 26) rfl w.heap.size 0 #[.int .i64 k, .bool p.lit.neg, .string p.lit.name, .int .i64 p.kind, .int .i64 p.rank, .string p.src, .string r.name, .bool r.strict, .int .i64 r.rank, .slice none 0 0, .bool r.head.neg, .string r.head.name, .string q.rule, .int .i64 q.rank, .bool q.lit.neg, .string q.lit.name] rfl rfl (there_of5 HZ3.out rfl) (by kernel_rfl) (by simp [Value.oneCell']) ?_; refine Hid.out ?_)
              have HF2 : Hid ((w3.setCells w.heap.size 0 (#[.int .i64 k, .bool p.lit.neg, .string p.lit.name, .int .i64 p.kind, .int .i64 p.rank, .string p.src, .string r.name, .bool r.strict, .int .i64 r.rank, .slice none 0 0, .bool r.head.neg, .string r.head.name, .string q.rule, .int .i64 q.rank, .bool q.lit.neg, .string q.lit.name] : Array Value).toList).heap[w.heap.size]? = some (.cells #[.int .i64 k, .bool p.lit.neg, .string p.lit.name, .int .i64 p.kind, .int .i64 p.rank, .string p.src, .string r.name, .bool r.strict, .int .i64 r.rank, .slice none 0 0, .bool r.head.neg, .string r.head.name, .string q.rule, .int .i64 q.rank, .bool q.lit.neg, .string q.lit.name] 88 (0, 0))) := put16_heap HZ3.out (.int .i64 k) (.bool p.lit.neg) (.string p.lit.name) (.int .i64 p.kind) (.int .i64 p.rank) (.string p.src) (.string r.name) (.bool r.strict) (.int .i64 r.rank) (.slice none 0 0) (.bool r.head.neg) (.string r.head.name) (.string q.rule) (.int .i64 q.rank) (.bool q.lit.neg) (.string q.lit.name)
              have HBF : Hid (Below w.heap.size w (w3.setCells w.heap.size 0 (#[.int .i64 k, .bool p.lit.neg, .string p.lit.name, .int .i64 p.kind, .int .i64 p.rank, .string p.src, .string r.name, .bool r.strict, .int .i64 r.rank, .slice none 0 0, .bool r.head.neg, .string r.head.name, .string q.rule, .int .i64 q.rank, .bool q.lit.neg, .string q.lit.name] : Array Value).toList)) := put16_below HB3.out (Nat.le_refl _) (.int .i64 k) (.bool p.lit.neg) (.string p.lit.name) (.int .i64 p.kind) (.int .i64 p.rank) (.string p.src) (.string r.name) (.bool r.strict) (.int .i64 r.rank) (.slice none 0 0) (.bool r.head.neg) (.string r.head.name) (.string q.rule) (.int .i64 q.rank) (.bool q.lit.neg) (.string q.lit.name)
              refine hidIt ?_
              generalize (w3.setCells w.heap.size 0 (#[.int .i64 k, .bool p.lit.neg, .string p.lit.name, .int .i64 p.kind, .int .i64 p.rank, .string p.src, .string r.name, .bool r.strict, .int .i64 r.rank, .slice none 0 0, .bool r.head.neg, .string r.head.name, .string q.rule, .int .i64 q.rank, .bool q.lit.neg, .string q.lit.name] : Array Value).toList) = w9 at *
              obtain ⟨z0, z1, z2, z3, z4, z5, z6, z7, z8, z9, za, zb, zc, zd, ze, zf⟩ := bcell16 HF2.out
              have lz := lt_of_block HF2.out
              go_wp2_with fail
              refine bodyPost_ret (v := .agg #[.int .i64 k, .bool p.lit.neg, .string p.lit.name, .int .i64 p.kind, .int .i64 p.rank, .string p.src, .string r.name, .bool r.strict, .int .i64 r.rank, .slice none 0 0, .bool r.head.neg, .string r.head.name, .string q.rule, .int .i64 q.rank, .bool q.lit.neg, .string q.lit.name]) (by simp [results, Tryz.results56, go_sem, z0, z1, z2, z3, z4, z5, z6, z7, z8, z9, za, zb, zc, zd, ze, zf, lz]) rfl ?_
              exact ⟨.slice none 0 0, by rw [HK.out.1]; rfl, fun r' h => absurd h (HK.out.2 r'), HBF.out⟩
          · have HIT := hidIt (HA2.out HF.out (by unfold isStrict isRule; rw [ht, hr]; rfl))
            exact absurd HCASE2.out (by unfold isStrict isRule; rw [ht, hr]; simp)
        · have HIT := hidIt (HA2.out HF.out (by unfold isStrict isRule; rw [ht]; rfl))
          exact absurd HCASE2.out (by unfold isStrict isRule; rw [ht]; simp)
      · have HIT := hidIt (HA1.out (by unfold isAxiom isPrem isAssume; rw [ha, hp, hm]; rfl))
        exact absurd HCASE.out (by unfold isAxiom isPrem isAssume; rw [ha, hp, hm]; simp)
    · have HIT := hidIt (HA1.out (by unfold isAxiom isPrem isAssume; rw [ha, hp]; rfl))
      exact absurd HCASE.out (by unfold isAxiom isPrem isAssume; rw [ha, hp]; simp)
  · have HIT := hidIt (HA1.out (by unfold isAxiom isPrem isAssume; rw [ha]; rfl))
    exact absurd HCASE.out (by unfold isAxiom isPrem isAssume; rw [ha]; simp)

theorem r5lineOf_any (s : ByteArray) (hs : s.size ≤ 4096) (w : World) :
    Calls Tryz.prog 56 #[.string s] w fun e w' => ∃ bv : Value, e = .returned (itemV (itemOf s) bv) ∧ (∀ r, itemOf s = .ru r → OwnL w' w.heap.size bv r.body) ∧ Below w.heap.size w w' := by
  cases h : (isAxiom (atW (splitW s 32) 0) || (isPrem (atW (splitW s 32) 0) || isAssume (atW (splitW s 32) 0)))
  · cases h2 : (isStrict (atW (splitW s 32) 0) || isRule (atW (splitW s 32) 0))
    · exact r5lineOf_C s hs h h2 w
    · exact r5lineOf_B s hs h h2 w
  · exact r5lineOf_A s hs h w
end Go.Proofs.YtfcoplplkbeljaaGreatDoor
