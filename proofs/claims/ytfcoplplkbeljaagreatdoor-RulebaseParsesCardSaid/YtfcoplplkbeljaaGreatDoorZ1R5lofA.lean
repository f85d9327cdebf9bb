/- The reference's reading of a line. -/
import Derived.Test.YtfcoplplkbeljaaGreatDoorZ1R5pof
import Derived.Test.YtfcoplplkbeljaaGreatDoorZ1R5pmof
import Derived.Test.YtfcoplplkbeljaaGreatDoorZ1Y
import Derived.Deep.MidRow

namespace Go.Proofs.YtfcoplplkbeljaaGreatDoor
set_option linter.unusedVariables false
set_option linter.unusedSimpArgs false
open Go Go.RowKit

/-- An item as a line's value, with the value of a rule's body. -/
def itemV : It5 → Value → Value
  | .no, _ => line0
  | .pm p, _ => lineV 1 p noRu (.slice none 0 0) noPr
  | .ru r, bv => lineV 2 noPm r bv noPr
  | .pr q, _ => lineV 3 noPm noRu (.slice none 0 0) q
theorem item_a1 {s : ByteArray} (h : (isAxiom (atW (splitW s 32) 0) || (isPrem (atW (splitW s 32) 0) || isAssume (atW (splitW s 32) 0))) = true) : itemOf s = if premK s (splitW s 32) = true then .pm (premC (splitW s 32)) else .no := by
  unfold itemOf itemW
  rw [if_pos h]
theorem item_a2 {s : ByteArray} (h : (isAxiom (atW (splitW s 32) 0) || (isPrem (atW (splitW s 32) 0) || isAssume (atW (splitW s 32) 0))) = false) (h2 : (isStrict (atW (splitW s 32) 0) || isRule (atW (splitW s 32) 0)) = true) : itemOf s = if ruleK s (splitW s 32) = true then .ru (ruleC (splitW s 32)) else .no := by
  unfold itemOf itemW
  rw [h, h2, if_neg (by decide), if_pos rfl]
theorem item_a3 {s : ByteArray} (h : (isAxiom (atW (splitW s 32) 0) || (isPrem (atW (splitW s 32) 0) || isAssume (atW (splitW s 32) 0))) = false) (h2 : (isStrict (atW (splitW s 32) 0) || isRule (atW (splitW s 32) 0)) = false) (h3 : isPromote (atW (splitW s 32) 0) = true) : itemOf s = if promK s (splitW s 32) = true then .pr (promC (splitW s 32)) else .no := by
  unfold itemOf itemW
  rw [h, h2, h3, if_neg (by decide), if_neg (by decide), if_pos rfl]
theorem item_a0 {s : ByteArray} (h : (isAxiom (atW (splitW s 32) 0) || (isPrem (atW (splitW s 32) 0) || isAssume (atW (splitW s 32) 0))) = false) (h2 : (isStrict (atW (splitW s 32) 0) || isRule (atW (splitW s 32) 0)) = false) (h3 : isPromote (atW (splitW s 32) 0) = false) : itemOf s = .no := by
  unfold itemOf itemW
  rw [h, h2, h3, if_neg (by decide), if_neg (by decide), if_neg (by decide)]
theorem below_row5 {n b : Nat} {w0 w : World} (h : Below n w0 w) (hb : n ≤ b) (cs : Array Value) : Below n w0 (w.setRow b cs) :=
  ⟨h.os, h.tape, h.output, by show _ ≤ (w.heap.modify _ _).size; rw [Array.size_modify]; exact h.size, fun k hk => by
    show (w.heap.modify b _)[k]? = _
    rw [Array.getElem?_modify, if_neg (by omega)]
    exact h.block k hk⟩
theorem row_other5 {b k : Nat} {w : World} (cs : Array Value) (hk : k ≠ b) : (w.setRow b cs).heap[k]? = w.heap[k]? := by
  show (w.heap.modify b _)[k]? = _
  rw [Array.getElem?_modify, if_neg (fun e => hk e.symm)]
/-- The parts of a text are no longer than it, and at most one more than its bytes. -/
theorem splitGo_size (c : UInt8) : ∀ (l pre : List UInt8), (∀ x ∈ splitGo c pre l, x.length ≤ pre.length + l.length) ∧ (splitGo c pre l).length ≤ l.length + 1
  | [], pre => by simp [splitGo]
  | b :: l, pre => by
    rw [splitGo]
    split
    · obtain ⟨h1, h2⟩ := splitGo_size c l []
      refine ⟨fun x hx => ?_, by simp only [List.length_cons]; omega⟩
      rcases List.mem_cons.1 hx with rfl | hx
      · omega
      · have := h1 x hx
        simp only [List.length_nil, List.length_cons] at *
        omega
    · obtain ⟨h1, h2⟩ := splitGo_size c l (pre ++ [b])
      refine ⟨fun x hx => ?_, by simp only [List.length_cons]; omega⟩
      have := h1 x hx
      simp only [List.length_append, List.length_cons, List.length_nil] at *
      omega
theorem splitW_size (s : ByteArray) (c : UInt8) : (∀ x ∈ splitW s c, x.size ≤ s.size) ∧ (splitW s c).length ≤ s.size + 1 := by
  obtain ⟨h1, h2⟩ := splitGo_size c s.data.toList []
  have hs := Lib.size_eq s
  refine ⟨fun x hx => ?_, ?_⟩
  · obtain ⟨y, hy, rfl⟩ := List.mem_map.1 hx
    have := h1 y hy
    have e : (⟨y.toArray⟩ : ByteArray).size = y.length := by show y.toArray.size = _; simp
    rw [e]
    simp only [List.length_nil] at this
    omega
  · unfold splitW
    rw [List.length_map]
    omega

set_option maxRecDepth 100000 in
set_option maxHeartbeats 4000000 in
theorem r5lineOf_A (s : ByteArray) (hs : s.size ≤ 4096) (hcase : (isAxiom (atW (splitW s 32) 0) || (isPrem (atW (splitW s 32) 0) || isAssume (atW (splitW s 32) 0))) = true) (w : World) :
    Calls Tryz.prog 56 #[.string s] w fun e w' => ∃ bv : Value, e = .returned (itemV (itemOf s) bv) ∧ (∀ r, itemOf s = .ru r → OwnL w' w.heap.size bv r.body) ∧ Below w.heap.size w w' := by
  have hz := splitW_size s 32
  have hpos := split_pos s 32
  have HA1 := hidIt (@item_a1 s)
  have HA2 := hidIt (@item_a2 s)
  have HA3 := hidIt (@item_a3 s)
  have HA0 := hidIt (@item_a0 s)
  have HSP := hidIt (r5split_any s 32 (by omega))
  generalize itemOf s = IT at *
  generalize splitW s 32 = ws at *
  have HWS : Hid (∀ x ∈ ws, x.size ≤ 100000) := fun x hx => by have := hz.1 x hx; omega
  have HWL : Hid (ws.length ≤ 5000) := by show _ ≤ _; omega
  have HPOS := hidIt hpos
  have HCASE := hidIt hcase
  clear hz hcase
  have hgr0 := bgrow w (.cells #[.int .i64 0, .bool false, .string ⟨#[]⟩, .int .i64 0, .int .i64 0, .string ⟨#[]⟩, .string ⟨#[]⟩, .bool false, .int .i64 0, .slice none 0 0, .bool false, .string ⟨#[]⟩, .string ⟨#[]⟩, .int .i64 0, .bool false, .string ⟨#[]⟩] 88)
  have HB0 := hidIt hgr0
  have HZ0 := hidIt (heap_alloc_new w (.cells #[.int .i64 0, .bool false, .string ⟨#[]⟩, .int .i64 0, .int .i64 0, .string ⟨#[]⟩, .string ⟨#[]⟩, .bool false, .int .i64 0, .slice none 0 0, .bool false, .string ⟨#[]⟩, .string ⟨#[]⟩, .int .i64 0, .bool false, .string ⟨#[]⟩] 88))
  go_enter Tryz.func56, Tryz.ntmps56
  go_wp2_with fail
  clear hgr0
  refine (HSP.out _).mono ?_
  rintro e w1 ⟨v, rfl, hown1, hb1⟩
  have HB1 := hidIt (HB0.out.trans (Below.mono hb1 HB0.out.size))
  have HZ1 := hidIt (blk_kept2 HZ0.out hb1)
  have HO1 := hidIt hown1
  obtain ⟨a, c, rfl, hc0⟩ := hown1.cells
  obtain ⟨g0, rfl, hg0, hcell0⟩ := hc0 0 hpos
  have hat0 : ws[0] = atW ws 0 := by unfold atW; rw [List.getD_eq_getElem?_getD, List.getElem?_eq_getElem hpos]; rfl
  have hcell1 : w1.cell? ⟨g0, 0, none⟩ = some (.string (atW ws 0)) := by rw [← hat0]; exact hcell0
  clear hcell0
  have hlI : (0 : Int) < (ws.length : Int) := by omega
  clear hb1 HB0 HZ0 hown1 hc0 hat0 HSP hpos
  cases ha : ((atW ws 0).toList == [97, 120, 105, 111, 109])
  · cases hp : ((atW ws 0).toList == [112, 114, 101, 109, 105, 115, 101])
    · cases hm : ((atW ws 0).toList == [97, 115, 115, 117, 109, 101])
      · have HF : Hid ((isAxiom (atW ws 0) || (isPrem (atW ws 0) || isAssume (atW ws 0))) = false) := by show _ = _; unfold isAxiom isPrem isAssume; rw [ha, hp, hm]; rfl
        cases ht : ((atW ws 0).toList == [115, 116, 114, 105, 99, 116])
        · cases hr : ((atW ws 0).toList == [114, 117, 108, 101])
          · have HF2 : Hid ((isStrict (atW ws 0) || isRule (atW ws 0)) = false) := by show _ = _; unfold isStrict isRule; rw [ht, hr]; rfl
            cases ho : ((atW ws 0).toList == [112, 114, 111, 109, 111, 116, 101])
            · have HIT : Hid (IT = .no) := HA0.out HF.out HF2.out (by unfold isPromote; rw [ho])
              exact absurd HCASE.out (by rw [HF.out]; decide)
            · have HIT := hidIt (HA3.out HF.out HF2.out (by unfold isPromote; rw [ho]))
              exact absurd HCASE.out (by rw [HF.out]; decide)
          · have HIT := hidIt (HA2.out HF.out (by unfold isStrict isRule; rw [ht, hr]; rfl))
            exact absurd HCASE.out (by rw [HF.out]; decide)
        · have HIT := hidIt (HA2.out HF.out (by unfold isStrict isRule; rw [ht]; rfl))
          exact absurd HCASE.out (by rw [HF.out]; decide)
      · have HIT := hidIt (HA1.out (by unfold isAxiom isPrem isAssume; rw [ha, hp, hm]; rfl))
        go_wp2_with fail
        refine (r5premOf_any s ws _ _ HWS.out HPOS.out _ HO1.out).mono ?_
        rintro e w3 ⟨rfl, hb3⟩
        have HB3 := hidIt (HB1.out.trans (Below.mono hb3 HB1.out.size))
        have HZ3 := hidIt (blk_kept2 HZ1.out hb3)
        clear hb3
        obtain ⟨k, p, r, q, hk⟩ : ∃ k p r q, (if premK s ws = true then lineV 1 (premC ws) noRu (.slice none 0 0) noPr else line0) = lineV k p r (.slice none 0 0) q := by split <;> exact ⟨_, _, _, _, rfl⟩
        have HK : Hid (itemV IT (.slice none 0 0) = lineV k p r (.slice none 0 0) q ∧ ∀ r', IT ≠ .ru r') := by
          show _ ∧ _
          rw [HIT.out, ← hk]
          split
          · exact ⟨rfl, fun r' h => by cases h⟩
          · exact ⟨rfl, fun r' h => by cases h⟩
        rw [hk]
        clear hk
        unfold lineV
        go_wp2_with (refine wpList_store_mid rfl 88 (.tmp 2) (.tmp 15) rfl w.heap.size 0 #[.int .i64 k, .bool p.lit.neg, .string p.lit.name, .int .i64 p.kind, .int .i64 p.rank, .string p.src, .string r.name, .bool r.strict, .int .i64 r.rank, .slice none 0 0, .bool r.head.neg, .string r.head.name, .string q.rule, .int .i64 q.rank, .bool q.lit.neg, .string q.lit.name] rfl rfl (there_of5 HZ3.out rfl) (by kernel_rfl) (by simp [Value.oneCell']) ?_; refine Hid.out ?_)
        have HF2 : Hid ((w3.setCells w.heap.size 0 (#[.int .i64 k, .bool p.lit.neg, .string p.lit.name, .int .i64 p.kind, .int .i64 p.rank, .string p.src, .string r.name, .bool r.strict, .int .i64 r.rank, .slice none 0 0, .bool r.head.neg, .string r.head.name, .string q.rule, .int .i64 q.rank, .bool q.lit.neg, .string q.lit.name] : Array Value).toList).heap[w.heap.size]? = some (.cells #[.int .i64 k, .bool p.lit.neg, .string p.lit.name, .int .i64 p.kind, .int .i64 p.rank, .string p.src, .string r.name, .bool r.strict, .int .i64 r.rank, .slice none 0 0, .bool r.head.neg, .string r.head.name, .string q.rule, .int .i64 q.rank, .bool q.lit.neg, .string q.lit.name] 88 (0, 0))) := put16_heap HZ3.out (.int .i64 k) (.bool p.lit.neg) (.string p.lit.name) (.int .i64 p.kind) (.int .i64 p.rank) (.string p.src) (.string r.name) (.bool r.strict) (.int .i64 r.rank) (.slice none 0 0) (.bool r.head.neg) (.string r.head.name) (.string q.rule) (.int .i64 q.rank) (.bool q.lit.neg) (.string q.lit.name)
        have HBF : Hid (Below w.heap.size w (w3.setCells w.heap.size 0 (#[.int .i64 k, .bool p.lit.neg, .string p.lit.name, .int .i64 p.kind, .int .i64 p.rank, .string p.src, .string r.name, .bool r.strict, .int .i64 r.rank, .slice none 0 0, .bool r.head.neg, .string r.head.name, .string q.rule, .int .i64 q.rank, .bool q.lit.neg, .string q.lit.name] : Array Value).toList)) := put16_below HB3.out (Nat.le_refl _) (.int .i64 k) (.bool p.lit.neg) (.string p.lit.name) (.int .i64 p.kind) (.int .i64 p.rank) (.string p.src) (.string r.name) (.bool r.strict) (.int .i64 r.rank) (.slice none 0 0) (.bool r.head.neg) (.string r.head.name) (.string q.rule) (.int .i64 q.rank) (.bool q.lit.neg) (.string q.lit.name)
        refine hidIt ?_
        generalize (w3.setCells w.heap.size 0 (#[.int .i64 k, .bool p.lit.neg, .string p.lit.name, .int .i64 p.kind, .int .i64 p.rank, .string p.src, .string r.name, .bool r.strict, .int .i64 r.rank, .slice none 0 0, .bool r.head.neg, .string r.head.name, .string q.rule, .int .i64 q.rank, .bool q.lit.neg, .string q.lit.name] : Array Value).toList) = w9 at *
        obtain ⟨z0, z1, z2, z3, z4, z5, z6, z7, z8, z9, za, zb, zc, zd, ze, zf⟩ := bcell16 HF2.out
        have lz := lt_of_block HF2.out
        go_wp2_with fail
        refine bodyPost_ret (v := .agg #[.int .i64 k, .bool p.lit.neg, .string p.lit.name, .int .i64 p.kind, .int .i64 p.rank, .string p.src, .string r.name, .bool r.strict, .int .i64 r.rank, .slice none 0 0, .bool r.head.neg, .string r.head.name, .string q.rule, .int .i64 q.rank, .bool q.lit.neg, .string q.lit.name]) (by simp [results, Tryz.results56, go_sem, z0, z1, z2, z3, z4, z5, z6, z7, z8, z9, za, zb, zc, zd, ze, zf, lz]) rfl ?_
        exact ⟨.slice none 0 0, by rw [HK.out.1]; rfl, fun r' h => absurd h (HK.out.2 r'), HBF.out⟩
    · have HIT := hidIt (HA1.out (by unfold isAxiom isPrem isAssume; rw [ha, hp]; rfl))
      go_wp2_with fail
      refine (r5premOf_any s ws _ _ HWS.out HPOS.out _ HO1.out).mono ?_
      rintro e w3 ⟨rfl, hb3⟩
      have HB3 := hidIt (HB1.out.trans (Below.mono hb3 HB1.out.size))
      have HZ3 := hidIt (blk_kept2 HZ1.out hb3)
      clear hb3
      obtain ⟨k, p, r, q, hk⟩ : ∃ k p r q, (if premK s ws = true then lineV 1 (premC ws) noRu (.slice none 0 0) noPr else line0) = lineV k p r (.slice none 0 0) q := by split <;> exact ⟨_, _, _, _, rfl⟩
      have HK : Hid (itemV IT (.slice none 0 0) = lineV k p r (.slice none 0 0) q ∧ ∀ r', IT ≠ .ru r') := by
        show _ ∧ _
        rw [HIT.out, ← hk]
        split
        · exact ⟨rfl, fun r' h => by cases h⟩
        · exact ⟨rfl, fun r' h => by cases h⟩
      rw [hk]
      clear hk
      unfold lineV
      go_wp2_with (refine wpList_store_mid rfl 88 (.tmp 2) (.tmp 15) rfl w.heap.size 0 #[.int .i64 k, .bool p.lit.neg, .string p.lit.name, .int .i64 p.kind, .int .i64 p.rank, .string p.src, .string r.name, .bool r.strict, .int .i64 r.rank, .slice none 0 0, .bool r.head.neg, .string r.head.name, .string q.rule, .int .i64 q.rank, .bool q.lit.neg, .string q.lit.name] rfl rfl (there_of5 HZ3.out rfl) (by kernel_rfl) (by simp [Value.oneCell']) ?_; refine Hid.out ?_)
      have HF2 : Hid ((w3.setCells w.heap.size 0 (#[.int .i64 k, .bool p.lit.neg, .string p.lit.name, .int .i64 p.kind, .int .i64 p.rank, .string p.src, .string r.name, .bool r.strict, .int .i64 r.rank, .slice none 0 0, .bool r.head.neg, .string r.head.name, .string q.rule, .int .i64 q.rank, .bool q.lit.neg, .string q.lit.name] : Array Value).toList).heap[w.heap.size]? = some (.cells #[.int .i64 k, .bool p.lit.neg, .string p.lit.name, .int .i64 p.kind, .int .i64 p.rank, .string p.src, .string r.name, .bool r.strict, .int .i64 r.rank, .slice none 0 0, .bool r.head.neg, .string r.head.name, .string q.rule, .int .i64 q.rank, .bool q.lit.neg, .string q.lit.name] 88 (0, 0))) := put16_heap HZ3.out (.int .i64 k) (.bool p.lit.neg) (.string p.lit.name) (.int .i64 p.kind) (.int .i64 p.rank) (.string p.src) (.string r.name) (.bool r.strict) (.int .i64 r.rank) (.slice none 0 0) (.bool r.head.neg) (.string r.head.name) (.string q.rule) (.int .i64 q.rank) (.bool q.lit.neg) (.string q.lit.name)
      have HBF : Hid (Below w.heap.size w (w3.setCells w.heap.size 0 (#[.int .i64 k, .bool p.lit.neg, .string p.lit.name, .int .i64 p.kind, .int .i64 p.rank, .string p.src, .string r.name, .bool r.strict, .int .i64 r.rank, .slice none 0 0, .bool r.head.neg, .string r.head.name, .string q.rule, .int .i64 q.rank, .bool q.lit.neg, .string q.lit.name] : Array Value).toList)) := put16_below HB3.out (Nat.le_refl _) (.int .i64 k) (.bool p.lit.neg) (.string p.lit.name) (.int .i64 p.kind) (.int .i64 p.rank) (.string p.src) (.string r.name) (.bool r.strict) (.int .i64 r.rank) (.slice none 0 0) (.bool r.head.neg) (.string r.head.name) (.string q.rule) (.int .i64 q.rank) (.bool q.lit.neg) (.string q.lit.name)
      refine hidIt ?_
      generalize (w3.setCells w.heap.size 0 (#[.int .i64 k, .bool p.lit.neg, .string p.lit.name, .int .i64 p.kind, .int .i64 p.rank, .string p.src, .string r.name, .bool r.strict, .int .i64 r.rank, .slice none 0 0, .bool r.head.neg, .string r.head.name, .string q.rule, .int .i64 q.rank, .bool q.lit.neg, .string q.lit.name] : Array Value).toList) = w9 at *
      obtain ⟨z0, z1, z2, z3, z4, z5, z6, z7, z8, z9, za, zb, zc, zd, ze, zf⟩ := bcell16 HF2.out
      have lz := lt_of_block HF2.out
      go_wp2_with fail
      refine bodyPost_ret (v := .agg #[.int .i64 k, .bool p.lit.neg, .string p.lit.name, .int .i64 p.kind, .int .i64 p.rank, .string p.src, .string r.name, .bool r.strict, .int .i64 r.rank, .slice none 0 0, .bool r.head.neg, .string r.head.name, .string q.rule, .int .i64 q.rank, .bool q.lit.neg, .string q.lit.name]) (by simp [results, Tryz.results56, go_sem, z0, z1, z2, z3, z4, z5, z6, z7, z8, z9, za, zb, zc, zd, ze, zf, lz]) rfl ?_
      exact ⟨.slice none 0 0, by rw [HK.out.1]; rfl, fun r' h => absurd h (HK.out.2 r'), HBF.out⟩
  · have HIT := hidIt (HA1.out (by unfold isAxiom isPrem isAssume; rw [ha]; rfl))
    go_wp2_with fail
    refine (r5premOf_any s ws _ _ HWS.out HPOS.out _ HO1.out).mono ?_
    rintro e w3 ⟨rfl, hb3⟩
    have HB3 := hidIt (HB1.out.trans (Below.mono hb3 HB1.out.size))
    have HZ3 := hidIt (blk_kept2 HZ1.out hb3)
    clear hb3
    obtain ⟨k, p, r, q, hk⟩ : ∃ k p r q, (if premK s ws = true then lineV 1 (premC ws) noRu (.slice none 0 0) noPr else line0) = lineV k p r (.slice none 0 0) q := by split <;> exact ⟨_, _, _, _, rfl⟩
    have HK : Hid (itemV IT (.slice none 0 0) = lineV k p r (.slice none 0 0) q ∧ ∀ r', IT ≠ .ru r') := by
      show _ ∧ _
      rw [HIT.out, ← hk]
      split
      · exact ⟨rfl, fun r' h => by cases h⟩
      · exact ⟨rfl, fun r' h => by cases h⟩
    rw [hk]
    clear hk
    unfold lineV
    go_wp2_with (refine wpList_store_mid rfl 88 (.tmp 2) (.tmp 15) rfl w.heap.size 0 #[.int .i64 k, .bool p.lit.neg, .string p.lit.name, .int .i64 p.kind, .int .i64 p.rank, .string p.src, .string r.name, .bool r.strict, .int .i64 r.rank, .slice none 0 0, .bool r.head.neg, .string r.head.name, .string q.rule, .int .i64 q.rank, .bool q.lit.neg, .string q.lit.name] rfl rfl (there_of5 HZ3.out rfl) (by kernel_rfl) (by simp [Value.oneCell']) ?_; refine Hid.out ?_)
    have HF2 : Hid ((w3.setCells w.heap.size 0 (#[.int .i64 k, .bool p.lit.neg, .string p.lit.name, .int .i64 p.kind, .int .i64 p.rank, .string p.src, .string r.name, .bool r.strict, .int .i64 r.rank, .slice none 0 0, .bool r.head.neg, .string r.head.name, .string q.rule, .int .i64 q.rank, .bool q.lit.neg, .string q.lit.name] : Array Value).toList).heap[w.heap.size]? = some (.cells #[.int .i64 k, .bool p.lit.neg, .string p.lit.name, .int .i64 p.kind, .int .i64 p.rank, .string p.src, .string r.name, .bool r.strict, .int .i64 r.rank, .slice none 0 0, .bool r.head.neg, .string r.head.name, .string q.rule, .int .i64 q.rank, .bool q.lit.neg, .string q.lit.name] 88 (0, 0))) := put16_heap HZ3.out (.int .i64 k) (.bool p.lit.neg) (.string p.lit.name) (.int .i64 p.kind) (.int .i64 p.rank) (.string p.src) (.string r.name) (.bool r.strict) (.int .i64 r.rank) (.slice none 0 0) (.bool r.head.neg) (.string r.head.name) (.string q.rule) (.int .i64 q.rank) (.bool q.lit.neg) (.string q.lit.name)
    have HBF : Hid (Below w.heap.size w (w3.setCells w.heap.size 0 (#[.int .i64 k, .bool p.lit.neg, .string p.lit.name, .int .i64 p.kind, .int .i64 p.rank, .string p.src, .string r.name, .bool r.strict, .int .i64 r.rank, .slice none 0 0, .bool r.head.neg, .string r.head.name, .string q.rule, .int .i64 q.rank, .bool q.lit.neg, .string q.lit.name] : Array Value).toList)) := put16_below HB3.out (Nat.le_refl _) (.int .i64 k) (.bool p.lit.neg) (.string p.lit.name) (.int .i64 p.kind) (.int .i64 p.rank) (.string p.src) (.string r.name) (.bool r.strict) (.int .i64 r.rank) (.slice none 0 0) (.bool r.head.neg) (.string r.head.name) (.string q.rule) (.int .i64 q.rank) (.bool q.lit.neg) (.string q.lit.name)
    refine hidIt ?_
    generalize (w3.setCells w.heap.size 0 (#[.int .i64 k, .bool p.lit.neg, .string p.lit.name, .int .i64 p.kind, .int .i64 p.rank, .string p.src, .string r.name, .bool r.strict, .int .i64 r.rank, .slice none 0 0, .bool r.head.neg, .string r.head.name, .string q.rule, .int .i64 q.rank, .bool q.lit.neg, .string q.lit.name] : Array Value).toList) = w9 at *
    obtain ⟨z0, z1, z2, z3, z4, z5, z6, z7, z8, z9, za, zb, zc, zd, ze, zf⟩ := bcell16 HF2.out
    have lz := lt_of_block HF2.out
    go_wp2_with fail
    refine bodyPost_ret (v := .agg #[.int .i64 k, .bool p.lit.neg, .string p.lit.name, .int .i64 p.kind, .int .i64 p.rank, .string p.src, .string r.name, .bool r.strict, .int .i64 r.rank, .slice none 0 0, .bool r.head.neg, .string r.head.name, .string q.rule, .int .i64 q.rank, .bool q.lit.neg, .string q.lit.name]) (by simp [results, Tryz.results56, go_sem, z0, z1, z2, z3, z4, z5, z6, z7, z8, z9, za, zb, zc, zd, ze, zf, lz]) rfl ?_
    exact ⟨.slice none 0 0, by rw [HK.out.1]; rfl, fun r' h => absurd h (HK.out.2 r'), HBF.out⟩
end Go.Proofs.YtfcoplplkbeljaaGreatDoor
