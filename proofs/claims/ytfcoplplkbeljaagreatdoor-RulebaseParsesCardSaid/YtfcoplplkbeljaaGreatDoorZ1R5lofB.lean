/- The reference's reading of a line: those of rules. -/
import Derived.Test.YtfcoplplkbeljaaGreatDoorZ1R5lofA
import Derived.Test.YtfcoplplkbeljaaGreatDoorZ1R5ruof

namespace Go.Proofs.YtfcoplplkbeljaaGreatDoor
set_option linter.unusedVariables false
set_option linter.unusedSimpArgs false
open Go Go.RowKit

set_option maxRecDepth 100000 in
set_option maxHeartbeats 4000000 in
theorem r5lineOf_B (s : ByteArray) (hs : s.size ≤ 4096) (hcase : (isAxiom (atW (splitW s 32) 0) || (isPrem (atW (splitW s 32) 0) || isAssume (atW (splitW s 32) 0))) = false) (hcase2 : (isStrict (atW (splitW s 32) 0) || isRule (atW (splitW s 32) 0)) = true) (w : World) :
    Calls Tryz.prog 56 #[.string s] w fun e w' => ∃ bv : Value, e = .returned (itemV (itemOf s) bv) ∧ (∀ r, itemOf s = .ru r → OwnL w' w.heap.size bv r.body) ∧ Below w.heap.size w w' := by
  have hz := splitW_size s 32
  have hpos := split_pos s 32
  have HA1 := hidIt (@item_a1 s)
  have HA2 := hidIt (@item_a2 s)
  have HA3 := hidIt (@item_a3 s)
  have HA0 := hidIt (@item_a0 s)
  have HSP := hidIt (r5split_any s 32 (by omega))
  generalize itemOf s = IT at *
  generalize splitW s 32 = ws at *
  have HWS : Hid (∀ x ∈ ws, x.size ≤ 100000) := fun x hx => by have := hz.1 x hx; omega
  have HWL : Hid (ws.length ≤ 5000) := by show _ ≤ _; omega
  have HPOS := hidIt hpos
  have HCASE := hidIt hcase
  have HCASE2 := hidIt hcase2
  clear hz hcase hcase2
  have hgr0 := bgrow w (.cells #[.int .i64 0, .bool false, .string ⟨#[]⟩, .int .i64 0, .int .i64 0, .string ⟨#[]⟩, .string ⟨#[]⟩, .bool false, .int .i64 0, .slice none 0 0, .bool false, .string ⟨#[]⟩, .string ⟨#[]⟩, .int .i64 0, .bool false, .string ⟨#[]⟩] 88)
  have HB0 := hidIt hgr0
  have HZ0 := hidIt (heap_alloc_new w (.cells #[.int .i64 0, .bool false, .string ⟨#[]⟩, .int .i64 0, .int .i64 0, .string ⟨#[]⟩, .string ⟨#[]⟩, .bool false, .int .i64 0, .slice none 0 0, .bool false, .string ⟨#[]⟩, .string ⟨#[]⟩, .int .i64 0, .bool false, .string ⟨#[]⟩] 88))
  go_enter Tryz.func56, Tryz.ntmps56
  go_wp2_with fail
  clear hgr0
  refine (HSP.out _).mono ?_
  rintro e w1 ⟨v, rfl, hown1, hb1⟩
  have HB1 := hidIt (HB0.out.trans (Below.mono hb1 HB0.out.size))
  have HZ1 := hidIt (blk_kept2 HZ0.out hb1)
  have HO1 := hidIt hown1
  obtain ⟨a, c, rfl, hc0⟩ := hown1.cells
  obtain ⟨g0, rfl, hg0, hcell0⟩ := hc0 0 hpos
  have hat0 : ws[0] = atW ws 0 := by unfold atW; rw [List.getD_eq_getElem?_getD, List.getElem?_eq_getElem hpos]; rfl
  have hcell1 : w1.cell? ⟨g0, 0, none⟩ = some (.string (atW ws 0)) := by rw [← hat0]; exact hcell0
  clear hcell0
  have hlI : (0 : Int) < (ws.length : Int) := by omega
  clear hb1 HB0 HZ0 hown1 hc0 hat0 HSP hpos
  cases ha : ((atW ws 0).toList == [97, 120, 105, 111, 109])
  · cases hp : ((atW ws 0).toList == [112, 114, 101, 109, 105, 115, 101])
    · cases hm : ((atW ws 0).toList == [97, 115, 115, 117, 109, 101])
      · have HF : Hid ((isAxiom (atW ws 0) || (isPrem (atW ws 0) || isAssume (atW ws 0))) = false) := by show _ = _; unfold isAxiom isPrem isAssume; rw [ha, hp, hm]; rfl
        cases ht : ((atW ws 0).toList == [115, 116, 114, 105, 99, 116])
        · cases hr : ((atW ws 0).toList == [114, 117, 108, 101])
          · have HF2 : Hid ((isStrict (atW ws 0) || isRule (atW ws 0)) = false) := by show _ = _; unfold isStrict isRule; rw [ht, hr]; rfl
            cases ho : ((atW ws 0).toList == [112, 114, 111, 109, 111, 116, 101])
            · have HIT : Hid (IT = .no) := HA0.out HF.out HF2.out (by unfold isPromote; rw [ho])
              exact absurd HCASE2.out (by rw [HF2.out]; decide)
            · have HIT := hidIt (HA3.out HF.out HF2.out (by unfold isPromote; rw [ho]))
              exact absurd HCASE2.out (by rw [HF2.out]; decide)
          · have HIT := hidIt (HA2.out HF.out (by unfold isStrict isRule; rw [ht, hr]; rfl))
            go_wp2_with fail
            refine (r5ruleOf_any s ws _ _ HWS.out HPOS.out HWL.out _ HO1.out).mono ?_
            rintro e w3 ⟨bv, rfl, how, hb3⟩
            have HB3 := hidIt (HB1.out.trans (Below.mono hb3 HB1.out.size))
            have HZ3 := hidIt (blk_kept2 HZ1.out hb3)
            have hs1 := HB1.out.size
            clear hb3
            obtain ⟨k, p, r, a5, n5, c5, q, hk, ho5⟩ : ∃ k p r a5 n5 c5 q, (if ruleK s ws = true then lineV 2 noPm (ruleC ws) bv noPr else line0) = lineV k p r (.slice a5 n5 c5) q ∧ (ruleK s ws = true → bv = .slice a5 n5 c5) := by
              cases hrk : ruleK s ws
              · exact ⟨_, _, _, none, 0, 0, _, rfl, fun h => by cases h⟩
              · obtain ⟨a', c', hbv, -⟩ := (how hrk).form5
                subst hbv
                exact ⟨_, _, _, _, _, _, _, rfl, fun _ => rfl⟩
            have HK : Hid (itemV IT (.slice a5 n5 c5) = lineV k p r (.slice a5 n5 c5) q ∧ ∀ r', IT = .ru r' → OwnL w3 w1.heap.size (.slice a5 n5 c5) r'.body) := by
              show _ ∧ _
              rw [HIT.out, ← hk]
              cases hrk : ruleK s ws
              · exact ⟨rfl, fun r' h => by cases h⟩
              · rw [← ho5 hrk]
                refine ⟨rfl, fun r' h => ?_⟩
                injection h with h
                rw [← h]
                exact how hrk
            rw [hk]
            clear hk ho5 how
            unfold lineV
            go_wp2_with (refine wpList_store_mid rfl 88 (.tmp 2) (.tmp 21) rfl w.heap.size 0 #[.int .i64 k, .bool p.lit.neg, .string p.lit.name, .int .i64 p.kind, .int .i64 p.rank, .string p.src, .string r.name, .bool r.strict, .int .i64 r.rank, .slice a5 n5 c5, .bool r.head.neg, .string r.head.name, .string q.rule, .int .i64 q.rank, .bool q.lit.neg, .string q.lit.name] rfl rfl (there_of5 HZ3.out rfl) (by kernel_rfl) (by simp [Value.oneCell']) ?_; refine Hid.out ?_)
            have HF2 : Hid ((w3.setCells w.heap.size 0 (#[.int .i64 k, .bool p.lit.neg, .string p.lit.name, .int .i64 p.kind, .int .i64 p.rank, .string p.src, .string r.name, .bool r.strict, .int .i64 r.rank, .slice a5 n5 c5, .bool r.head.neg, .string r.head.name, .string q.rule, .int .i64 q.rank, .bool q.lit.neg, .string q.lit.name] : Array Value).toList).heap[w.heap.size]? = some (.cells #[.int .i64 k, .bool p.lit.neg, .string p.lit.name, .int .i64 p.kind, .int .i64 p.rank, .string p.src, .string r.name, .bool r.strict, .int .i64 r.rank, .slice a5 n5 c5, .bool r.head.neg, .string r.head.name, .string q.rule, .int .i64 q.rank, .bool q.lit.neg, .string q.lit.name] 88 (0, 0))) := put16_heap HZ3.out (.int .i64 k) (.bool p.lit.neg) (.string p.lit.name) (.int .i64 p.kind) (.int .i64 p.rank) (.string p.src) (.string r.name) (.bool r.strict) (.int .i64 r.rank) (.slice a5 n5 c5) (.bool r.head.neg) (.string r.head.name) (.string q.rule) (.int .i64 q.rank) (.bool q.lit.neg) (.string q.lit.name)
            have HBF : Hid (Below w.heap.size w (w3.setCells w.heap.size 0 (#[.int .i64 k, .bool p.lit.neg, .string p.lit.name, .int .i64 p.kind, .int .i64 p.rank, .string p.src, .string r.name, .bool r.strict, .int .i64 r.rank, .slice a5 n5 c5, .bool r.head.neg, .string r.head.name, .string q.rule, .int .i64 q.rank, .bool q.lit.neg, .string q.lit.name] : Array Value).toList)) := put16_below HB3.out (Nat.le_refl _) (.int .i64 k) (.bool p.lit.neg) (.string p.lit.name) (.int .i64 p.kind) (.int .i64 p.rank) (.string p.src) (.string r.name) (.bool r.strict) (.int .i64 r.rank) (.slice a5 n5 c5) (.bool r.head.neg) (.string r.head.name) (.string q.rule) (.int .i64 q.rank) (.bool q.lit.neg) (.string q.lit.name)
            have HKO : Hid (∀ r', IT = .ru r' → OwnL (w3.setCells w.heap.size 0 (#[.int .i64 k, .bool p.lit.neg, .string p.lit.name, .int .i64 p.kind, .int .i64 p.rank, .string p.src, .string r.name, .bool r.strict, .int .i64 r.rank, .slice a5 n5 c5, .bool r.head.neg, .string r.head.name, .string q.rule, .int .i64 q.rank, .bool q.lit.neg, .string q.lit.name] : Array Value).toList) w.heap.size (.slice a5 n5 c5) r'.body) := fun r' h => by
              have hz1 := lt_of_block HZ1.out
              exact owns_mono5 (owns_kept (HK.out.2 r' h) fun g e => put16_other (.int .i64 k) (.bool p.lit.neg) (.string p.lit.name) (.int .i64 p.kind) (.int .i64 p.rank) (.string p.src) (.string r.name) (.bool r.strict) (.int .i64 r.rank) (.slice a5 n5 c5) (.bool r.head.neg) (.string r.head.name) (.string q.rule) (.int .i64 q.rank) (.bool q.lit.neg) (.string q.lit.name) (by have := (OwnL.own_block (HK.out.2 r' h) g e).1; omega)) (by omega)
            refine hidIt ?_
            generalize (w3.setCells w.heap.size 0 (#[.int .i64 k, .bool p.lit.neg, .string p.lit.name, .int .i64 p.kind, .int .i64 p.rank, .string p.src, .string r.name, .bool r.strict, .int .i64 r.rank, .slice a5 n5 c5, .bool r.head.neg, .string r.head.name, .string q.rule, .int .i64 q.rank, .bool q.lit.neg, .string q.lit.name] : Array Value).toList) = w9 at *
            obtain ⟨z0, z1, z2, z3, z4, z5, z6, z7, z8, z9, za, zb, zc, zd, ze, zf⟩ := bcell16 HF2.out
            have lz := lt_of_block HF2.out
            go_wp2_with fail
            refine bodyPost_ret (v := .agg #[.int .i64 k, .bool p.lit.neg, .string p.lit.name, .int .i64 p.kind, .int .i64 p.rank, .string p.src, .string r.name, .bool r.strict, .int .i64 r.rank, .slice a5 n5 c5, .bool r.head.neg, .string r.head.name, .string q.rule, .int .i64 q.rank, .bool q.lit.neg, .string q.lit.name]) (by simp [results, Tryz.results56, go_sem, z0, z1, z2, z3, z4, z5, z6, z7, z8, z9, za, zb, zc, zd, ze, zf, lz]) rfl ?_
            exact ⟨.slice a5 n5 c5, by rw [HK.out.1]; rfl, HKO.out, HBF.out⟩
        · have HIT := hidIt (HA2.out HF.out (by unfold isStrict isRule; rw [ht]; rfl))
          go_wp2_with fail
          refine (r5ruleOf_any s ws _ _ HWS.out HPOS.out HWL.out _ HO1.out).mono ?_
          rintro e w3 ⟨bv, rfl, how, hb3⟩
          have HB3 := hidIt (HB1.out.trans (Below.mono hb3 HB1.out.size))
          have HZ3 := hidIt (blk_kept2 HZ1.out hb3)
          have hs1 := HB1.out.size
          clear hb3
          obtain ⟨k, p, r, a5, n5, c5, q, hk, ho5⟩ : ∃ k p r a5 n5 c5 q, (if ruleK s ws = true then lineV 2 noPm (ruleC ws) bv noPr else line0) = lineV k p r (.slice a5 n5 c5) q ∧ (ruleK s ws = true → bv = .slice a5 n5 c5) := by
            cases hrk : ruleK s ws
            · exact ⟨_, _, _, none, 0, 0, _, rfl, fun h => by cases h⟩
            · obtain ⟨a', c', hbv, -⟩ := (how hrk).form5
              subst hbv
              exact ⟨_, _, _, _, _, _, _, rfl, fun _ => rfl⟩
          have HK : Hid (itemV IT (.slice a5 n5 c5) = lineV k p r (.slice a5 n5 c5) q ∧ ∀ r', IT = .ru r' → OwnL w3 w1.heap.size (.slice a5 n5 c5) r'.body) := by
            show _ ∧ _
            rw [HIT.out, ← hk]
            cases hrk : ruleK s ws
            · exact ⟨rfl, fun r' h => by cases h⟩
            · rw [← ho5 hrk]
              refine ⟨rfl, fun r' h => ?_⟩
              injection h with h
              rw [← h]
              exact how hrk
          rw [hk]
          clear hk ho5 how
          unfold lineV
          go_wp2_with (refine wpList_store_mid rfl 88 (.tmp 2) (.tmp 21) rfl w.heap.size 0 #[.int .i64 k, .bool p.lit.neg, .string p.lit.name, .int .i64 p.kind, .int .i64 p.rank, .string p.src, .string r.name, .bool r.strict, .int .i64 r.rank, .slice a5 n5 c5, .bool r.head.neg, .string r.head.name, .string q.rule, .int .i64 q.rank, .bool q.lit.neg, .string q.lit.name] rfl rfl (there_of5 HZ3.out rfl) (by kernel_rfl) (by simp [Value.oneCell']) ?_; refine Hid.out ?_)
          have HF2 : Hid ((w3.setCells w.heap.size 0 (#[.int .i64 k, .bool p.lit.neg, .string p.lit.name, .int .i64 p.kind, .int .i64 p.rank, .string p.src, .string r.name, .bool r.strict, .int .i64 r.rank, .slice a5 n5 c5, .bool r.head.neg, .string r.head.name, .string q.rule, .int .i64 q.rank, .bool q.lit.neg, .string q.lit.name] : Array Value).toList).heap[w.heap.size]? = some (.cells #[.int .i64 k, .bool p.lit.neg, .string p.lit.name, .int .i64 p.kind, .int .i64 p.rank, .string p.src, .string r.name, .bool r.strict, .int .i64 r.rank, .slice a5 n5 c5, .bool r.head.neg, .string r.head.name, .string q.rule, .int .i64 q.rank, .bool q.lit.neg, .string q.lit.name] 88 (0, 0))) := put16_heap HZ3.out (.int .i64 k) (.bool p.lit.neg) (.string p.lit.name) (.int .i64 p.kind) (.int .i64 p.rank) (.string p.src) (.string r.name) (.bool r.strict) (.int .i64 r.rank) (.slice a5 n5 c5) (.bool r.head.neg) (.string r.head.name) (.string q.rule) (.int .i64 q.rank) (.bool q.lit.neg) (.string q.lit.name)
          have HBF : Hid (Below w.heap.size w (w3.setCells w.heap.size 0 (#[.int .i64 k, .bool p.lit.neg, .string p.lit.name, .int .i64 p.kind, .int .i64 p.rank, .string p.src, .string r.name, .bool r.strict, .int .i64 r.rank, .slice a5 n5 c5, .bool r.head.neg, .string r.head.name, .string q.rule, .int .i64 q.rank, .bool q.lit.neg, .string q.lit.name] : Array Value).toList)) := put16_below HB3.out (Nat.le_refl _) (.int .i64 k) (.bool p.lit.neg) (.string p.lit.name) (.int .i64 p.kind) (.int .i64 p.rank) (.string p.src) (.string r.name) (.bool r.strict) (.int .i64 r.rank) (.slice a5 n5 c5) (.bool r.head.neg) (.string r.head.name) (.string q.rule) (.int .i64 q.rank) (.bool q.lit.neg) (.string q.lit.name)
          have HKO : Hid (∀ r', IT = .ru r' → OwnL (w3.setCells w.heap.size 0 (#[.int .i64 k, .bool p.lit.neg, .string p.lit.name, .int .i64 p.kind, .int .i64 p.rank, .string p.src, .string r.name, .bool r.strict, .int .i64 r.rank, .slice a5 n5 c5, .bool r.head.neg, .string r.head.name, .string q.rule, .int .i64 q.rank, .bool q.lit.neg, .string q.lit.name] : Array Value).toList) w.heap.size (.slice a5 n5 c5) r'.body) := fun r' h => by
            have hz1 := lt_of_block HZ1.out
            exact owns_mono5 (owns_kept (HK.out.2 r' h) fun g e => put16_other (.int .i64 k) (.bool p.lit.neg) (.string p.lit.name) (.int .i64 p.kind) (.int .i64 p.rank) (.string p.src) (.string r.name) (.bool r.strict) (.int .i64 r.rank) (.slice a5 n5 c5) (.bool r.head.neg) (.string r.head.name) (.string q.rule) (.int .i64 q.rank) (.bool q.lit.neg) (.string q.lit.name) (by have := (OwnL.own_block (HK.out.2 r' h) g e).1; omega)) (by omega)
          refine hidIt ?_
          generalize (w3.setCells w.heap.size 0 (#[.int .i64 k, .bool p.lit.neg, .string p.lit.name, .int .i64 p.kind, .int .i64 p.rank, .string p.src, .string r.name, .bool r.strict, .int .i64 r.rank, .slice a5 n5 c5, .bool r.head.neg, .string r.head.name, .string q.rule, .int .i64 q.rank, .bool q.lit.neg, .string q.lit.name] : Array Value).toList) = w9 at *
          obtain ⟨z0, z1, z2, z3, z4, z5, z6, z7, z8, z9, za, zb, zc, zd, ze, zf⟩ := bcell16 HF2.out
          have lz := lt_of_block HF2.out
          go_wp2_with fail
          refine bodyPost_ret (v := .agg #[.int .i64 k, .bool p.lit.neg, .string p.lit.name, .int .i64 p.kind, .int .i64 p.rank, .string p.src, .string r.name, .bool r.strict, .int .i64 r.rank, .slice a5 n5 c5, .bool r.head.neg, .string r.head.name, .string q.rule, .int .i64 q.rank, .bool q.lit.neg, .string q.lit.name]) (by simp [results, Tryz.results56, go_sem, z0, z1, z2, z3, z4, z5, z6, z7, z8, z9, za, zb, zc, zd, ze, zf, lz]) rfl ?_
          exact ⟨.slice a5 n5 c5, by rw [HK.out.1]; rfl, HKO.out, HBF.out⟩
      · have HIT := hidIt (HA1.out (by unfold isAxiom isPrem isAssume; rw [ha, hp, hm]; rfl))
        exact absurd HCASE.out (by unfold isAxiom isPrem isAssume; rw [ha, hp, hm]; simp)
    · have HIT := hidIt (HA1.out (by unfold isAxiom isPrem isAssume; rw [ha, hp]; rfl))
      exact absurd HCASE.out (by unfold isAxiom isPrem isAssume; rw [ha, hp]; simp)
  · have HIT := hidIt (HA1.out (by unfold isAxiom isPrem isAssume; rw [ha]; rfl))
    exact absurd HCASE.out (by unfold isAxiom isPrem isAssume; rw [ha]; simp)
end Go.Proofs.YtfcoplplkbeljaaGreatDoor
