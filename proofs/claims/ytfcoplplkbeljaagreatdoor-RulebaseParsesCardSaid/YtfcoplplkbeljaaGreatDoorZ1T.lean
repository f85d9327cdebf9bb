/- Lines of rules with bodies of any length: read back by the program's reader. The reference's Split: the parts of a text between single bytes; a word by its number; a rank by its digit. What the reference reads out of a line, in plain words; and that the program reads the same. A box of sixteen cells that is stored whole: a line's value. -/
import Derived.Test.YtfcoplplkbeljaaGreatDoorZ1N
import Derived.Test.YtfcoplplkbeljaaGreatDoorZ1M
import Derived.Test.YtfcoplplkbeljaaGreatDoorZ1R
import Derived.Test.YtfcoplplkbeljaaGreatDoorZ1K
import Derived.Deep.MidRow

namespace Go.Proofs.YtfcoplplkbeljaaGreatDoor
set_option linter.unusedVariables false
set_option linter.unusedSimpArgs false
open Go Go.RowKit

/-- A rule whose parts are valid; its body may be long. -/
structure RuWell (r : Ru) : Prop where
  name : vn r.name = true
  rank : 0 ≤ r.rank ∧ r.rank ≤ 9
  none : r.strict = true → r.rank = 0
  head : vn r.head.name = true
  body : ∀ x ∈ r.body, vn x.name = true
theorem ruleW_plain {r : Ru} (h : RuWell r) : ∀ w ∈ ruleWB r r.rank.toNat, w.data.toList ≠ [] ∧ ∀ b ∈ w.data.toList, plainC b = true := fun w hw => by
  have hr := h.rank
  unfold ruleWB ruleH at hw
  rcases List.mem_append.1 hw with hw | hw
  · split at hw
    · rcases List.mem_cons.1 hw with rfl | hw
      · decide
      · rw [List.mem_singleton.1 hw]; exact app_plain (src_plain h.name) (by decide)
    · rcases List.mem_cons.1 hw with rfl | hw
      · decide
      rcases List.mem_cons.1 hw with rfl | hw
      · exact src_plain h.name
      · rw [List.mem_singleton.1 hw]; exact app_plain (dig_plain' (by omega)) (by decide)
  · rcases List.mem_append.1 hw with hw | hw
    · exact bodyWB_plain _ h.body w hw
    · rcases List.mem_cons.1 hw with rfl | hw
      · exact arrow_plain _
      · rw [List.mem_singleton.1 hw]; exact lit_plain h.head
theorem ruleW_words {r : Ru} (h : RuWell r) : wordsOf (ruleT r r.rank.toNat) = ruleWB r r.rank.toNat := words_join _ _ (ruleT_words r _) (ruleW_plain h)
theorem rdRuleW_back {r : Ru} (h : RuWell r) : rdRule r.strict ⟨(ruleWB r r.rank.toNat).tail, false⟩ = (r, ⟨[], false⟩) := by
  obtain ⟨n, hn, hr⟩ := rank_nat h.rank
  obtain ⟨l1, l2⟩ := litW_back h.head
  obtain ⟨d1, d2⟩ := dig_back hn
  obtain ⟨b1, b2⟩ := body_back r.body h.body
  have hbl := bodyWB_len r.body
  have hb := rankB_in hn
  have hz := h.none
  have hnm := h.name
  obtain ⟨name, strict, rank, body, head⟩ := r
  simp only at hr l1 l2 b1 b2 hbl hz hnm ⊢
  subst hr
  have e1 : ((n : Int)).toNat = n := by omega
  have t1 : trimT (name ++ colT) colT = name := trim_sign _ _
  have t2 : trimT name colT = name := trim_no _ _ (fun b hb => ((vn_bytes hnm).2 b hb).ne (by decide))
  have t3 : trimT (digT n ++ colT) colT = digT n := trim_sign _ _
  have tk : (bodyWB body ++ [arrowT strict, litT head]).take ((bodyWB body ++ [arrowT strict, litT head]).length - 2) = bodyWB body := by
    rw [List.length_append]
    show List.take ((bodyWB body).length + 2 - 2) _ = _
    rw [Nat.add_sub_cancel, List.take_left]
  have dk : (bodyWB body ++ [arrowT strict, litT head]).drop ((bodyWB body ++ [arrowT strict, litT head]).length - 2) = [arrowT strict, litT head] := by
    rw [List.length_append]
    show List.drop ((bodyWB body).length + 2 - 2) _ = _
    rw [Nat.add_sub_cancel, List.drop_left]
  have key : ∀ bad, rdBody ((bodyWB body ++ [arrowT strict, litT head]).length - 2) ⟨bodyWB body ++ [arrowT strict, litT head], bad⟩ = (body, ⟨[arrowT strict, litT head], bad⟩) := fun bad => by
    unfold rdBody
    simp only [tk, dk, b1, b2, Bool.or_false]
  cases strict
  · have e2 : (rdRule1 false ⟨(ruleWB ⟨name, false, n, body, head⟩ n).tail, false⟩) = ((n : Int), ⟨bodyWB body ++ [arrowT false, litT head], false⟩) := by
      simp [rdRule1, rdRank, rdName, hdW, ruleWB, ruleH, t2, t3, hnm, d1, d2, hb]
    have e3 : (rdName ⟨(ruleWB ⟨name, false, n, body, head⟩ n).tail, false⟩ colT).1 = name := by
      simp [rdName, hdW, ruleWB, ruleH, t2]
    unfold rdRule rdRule2
    rw [e1, e2, e3]
    simp only [key]
    simp [rdLit, rdWord, hdW, trim_nil, l1, l2]
  · have e0 := hz rfl
    have en : n = 0 := by omega
    subst en
    have e2 : (rdRule1 true ⟨(ruleWB ⟨name, true, ((0 : Nat) : Int), body, head⟩ 0).tail, false⟩) = (0, ⟨bodyWB body ++ [arrowT true, litT head], false⟩) := by
      simp [rdRule1, rdName, hdW, ruleWB, ruleH, t1, hnm]
    have e3 : (rdName ⟨(ruleWB ⟨name, true, ((0 : Nat) : Int), body, head⟩ 0).tail, false⟩ colT).1 = name := by
      simp [rdName, hdW, ruleWB, ruleH, t1]
    unfold rdRule rdRule2
    rw [e1, e2, e3]
    simp only [key]
    simp [rdLit, rdWord, hdW, trim_nil, l1, l2]

theorem addW_rule {r : Ru} (h : RuWell r) (b : Bs) (h1 : b.proms = []) : addL b (ruleT r r.rank.toNat) = (⟨b.prems, b.rules ++ [r], b.proms⟩, true) := by
  have hw := ruleW_words h
  have hr := rdRuleW_back h
  unfold addL addL2
  rw [hw]
  have hh : hdW (ruleWB r r.rank.toNat) = if r.strict then strictT else ruleHT := by unfold ruleWB ruleH; cases r.strict <;> rfl
  have e1 : isStrict (if r.strict then strictT else ruleHT) = r.strict := by cases r.strict <;> decide +kernel
  have e2 : isRule (if r.strict then strictT else ruleHT) = !r.strict := by cases r.strict <;> decide +kernel
  rw [hh, e1, e2, hr]
  have e3 : (r.strict || !r.strict) = true := by cases r.strict <;> rfl
  rw [e3, if_pos rfl]
  simp [addRu, same_self, h1]
theorem ruleW_no10 {r : Ru} (h : RuWell r) : ∀ b ∈ (ruleT r r.rank.toNat).data.toList, b ≠ 10 := by
  rw [ruleT_words]
  refine join_no10 _ fun w hw2 => ?_
  obtain ⟨v, hv, rfl⟩ := List.mem_map.1 hw2
  exact (ruleW_plain h v hv).2
end Go.Proofs.YtfcoplplkbeljaaGreatDoor

namespace Go.Proofs.YtfcoplplkbeljaaGreatDoor
set_option linter.unusedVariables false
set_option linter.unusedSimpArgs false
open Go Go.RowKit

theorem infoStr5 : (Tryz.prog.info? 9).map (fun i => (i.zero, i.size, i.bytes)) = some (some (.string ⟨#[]⟩), 1, 16) := by kernel_rfl
theorem elemStr5 : ElemOf 38 9 1 16 := elem_of Tryz.underlying38 infoStr5 rfl (by decide) (by decide)
def encS (s : ByteArray) : List Value := [.string s]
/-- A row of words that the call owns. -/
def OwnWs (w : World) (B : Nat) (v : Value) (ws : List ByteArray) : Prop := w.ownsRow B 9 1 v ws.length (ws.flatMap encS)

/-- The parts between bytes c; pre is what stands of the first one. -/
def splitGo (c : UInt8) : List UInt8 → List UInt8 → List (List UInt8)
  | pre, [] => [pre]
  | pre, b :: l => if b = c then pre :: splitGo c [] l else splitGo c (pre ++ [b]) l
def splitW (s : ByteArray) (c : UInt8) : List ByteArray := (splitGo c [] s.data.toList).map fun x => ⟨x.toArray⟩

theorem splitGo_step (c : UInt8) (l : List UInt8) (j i : Nat) (hji : j ≤ i) (hi : i < l.length) :
    splitGo c ((l.drop j).take (i - j)) (l.drop i) = if l[i] = c then (l.drop j).take (i - j) :: splitGo c ((l.drop (i + 1)).take (i + 1 - (i + 1))) (l.drop (i + 1)) else splitGo c ((l.drop j).take (i + 1 - j)) (l.drop (i + 1)) := by
  rw [List.drop_eq_getElem_cons hi, splitGo]
  split
  · rw [Nat.sub_self, List.take_zero]
  · congr 1
    have h1 : i - j < (l.drop j).length := by rw [List.length_drop]; omega
    rw [show i + 1 - j = i - j + 1 by omega, List.take_succ_eq_append_getElem h1, List.getElem_drop]
    simp only [show j + (i - j) = i by omega]
theorem part_bytes (s : ByteArray) (j i : Nat) : (s.extract j i).data.toList = (s.data.toList.drop j).take (i - j) := by
  rw [Lib.extract_data]

/-- A value is the bytes of this list. -/
theorem of_bytes {a : ByteArray} {l : List UInt8} (h : a.data.toList = l) : a = ⟨l.toArray⟩ := by
  subst h
  cases a
  simp

set_option maxRecDepth 100000 in
set_option maxHeartbeats 2000000 in
theorem r5split_any (s : ByteArray) (c : UInt8) (hs : s.size ≤ 100000) (w : World) :
    Calls Tryz.prog 55 #[.string s, .int .u8 (c.toNat : Int)] w fun e w' => ∃ v, e = .returned v ∧ OwnWs w' w.heap.size v (splitW s c) ∧ Below w.heap.size w w' := by
  go_enter Tryz.func55, Tryz.ntmps55
  go_wp2_with fail
  go_loopw [5, 6, 7] (fun v5 v6 v7 wr => ∃ (i j : Nat) (ws : List ByteArray) (a : Option Addr) (cp : Nat), v5 = .slice a ws.length cp ∧ v6 = .int .i64 j ∧ v7 = .int .i64 i ∧ j ≤ i ∧ i ≤ s.size ∧ ws.length ≤ i ∧ Hid (OwnWs wr w.heap.size (.slice a ws.length cp) ws) ∧ Hid (Below w.heap.size w wr) ∧ Hid (splitGo c [] s.data.toList = ws.map (·.data.toList) ++ splitGo c ((s.data.toList.drop j).take (i - j)) (s.data.toList.drop i))) (fun _ _ v7 _ => s.size - (intOf v7).toNat)
  case atStart => exact ⟨0, 0, [], none, 0, rfl, rfl, rfl, Nat.le_refl _, Nat.zero_le _, Nat.zero_le _, World.ownsRow_nil _ _ _ _, Below.refl _ _, by show _ = _; simp⟩
  case round =>
    obtain ⟨i, j, ws, a, cp, rfl, rfl, rfl, hji, his, hwi, HO, HB, HSP⟩ := hrel
    by_cases hlt : i < s.size
    · have hltI : (i : Int) < (s.size : Int) := by omega
      have hi0 : (0 : Int) ≤ (i : Int) := by omega
      have hj0 : (0 : Int) ≤ (j : Int) := by omega
      have hjiI : (j : Int) ≤ (i : Int) := by omega
      have hil : i < s.data.toList.length := by rw [Array.length_toList]; exact hlt
      have hst := splitGo_step c s.data.toList j i hji hil
      have hge : s.data.toList[i] = s[i] := rfl
      rw [hge] at hst
      by_cases hc : s[i] = c
      · rw [if_pos hc] at hst
        have HST := hidIt hst
        have hcI : ((s[i].toNat : Int) == (c.toNat : Int)) = true := by rw [hc]; exact beq_self_eq_true _
        clear hst hge
        go_wp2_with (at_builtin; refine Hid.out ?_)
        refine hidIt ?_
        have hgr := bgrow wr (.cells #[.string (s.extract j i)] 9)
        have ho1 : (wr.alloc (.cells #[.string (s.extract j i)] 9)).ownsRow w.heap.size 9 1 (.slice a ws.length cp) ws.length (ws.flatMap encS) := owns_kept HO.out fun g e => hgr.block g (owns_blk HO.out g e).2
        refine wpList_append_kb rfl _ _ elemStr5 rfl w.heap.size (.slice a ws.length cp) ws.length _ rfl ho1 _ 1 rfl #[.string (s.extract j i)] 9 (heap_alloc_new _ _) rfl (one_of (by rfl)) (by omega) (Nat.le_trans HB.out.size hgr.size) ?_
        intro g8 c8 w8 hown8 hg8 hbl8
        have HB8 : Hid (Below w.heap.size w w8) := below_app5 (HB.out.trans (Below.mono hgr HB.out.size)) hg8 (fun g' e => (owns_blk ho1 g' e).1) (Nat.le_trans HB.out.size hgr.size)
        have HO8 : Hid (OwnWs w8 w.heap.size (.slice (some ⟨g8, 0, none⟩) (ws.length + 1) c8) (ws ++ [s.extract j i])) := by
          show World.ownsRow _ _ _ _ _ _ _
          rw [List.length_append, List.flatMap_append]
          exact hown8
        have HS8 : Hid (splitGo c [] s.data.toList = (ws ++ [s.extract j i]).map (·.data.toList) ++ splitGo c ((s.data.toList.drop (i + 1)).take (i + 1 - (i + 1))) (s.data.toList.drop (i + 1))) := by
          show _ = _
          rw [HSP.out, HST.out, List.map_append, List.append_assoc, List.map_cons, List.map_nil, part_bytes]
          rfl
        clear hown8 hg8 hbl8 ho1 hgr HO HB HSP HST
        go_wp2_with fail
        go_roundw
        case rel => exact ⟨i + 1, i + 1, ws ++ [s.extract j i], some ⟨g8, 0, none⟩, c8, by simp, by go_num, by go_num, Nat.le_refl _, by omega, by simp; omega, by simpa using HO8, HB8, HS8⟩
        case measure => simp [intOf]; omega
      · rw [if_neg hc] at hst
        have HST := hidIt hst
        have hcI : ((s[i].toNat : Int) == (c.toNat : Int)) = false := by
          rw [beq_eq_false_iff_ne]
          intro h
          exact hc (UInt8.toNat_inj.1 (by omega))
        clear hst hge
        have HS8 : Hid (splitGo c [] s.data.toList = ws.map (·.data.toList) ++ splitGo c ((s.data.toList.drop j).take (i + 1 - j)) (s.data.toList.drop (i + 1))) := by
          show _ = _
          rw [HSP.out, HST.out]
        clear HSP HST
        go_wp2_with fail
        go_roundw
        case rel => exact ⟨i + 1, j, ws, a, cp, rfl, rfl, by go_num, by omega, by omega, by omega, HO, HB, HS8⟩
        case measure => simp [intOf]; omega
    · have hltI : ¬ (i : Int) < (s.size : Int) := by omega
      obtain rfl : i = s.size := by omega
      have hj0 : (0 : Int) ≤ (j : Int) := by omega
      have hjiI : (j : Int) ≤ (s.size : Int) := by omega
      clear hlt
      go_wp2_with (at_builtin; refine Hid.out ?_)
      refine hidIt ?_
      have hgr := bgrow wr (.cells #[.string (s.extract j s.size)] 9)
      have ho1 : (wr.alloc (.cells #[.string (s.extract j s.size)] 9)).ownsRow w.heap.size 9 1 (.slice a ws.length cp) ws.length (ws.flatMap encS) := owns_kept HO.out fun g e => hgr.block g (owns_blk HO.out g e).2
      refine wpList_append_kb rfl _ _ elemStr5 rfl w.heap.size (.slice a ws.length cp) ws.length _ rfl ho1 _ 1 rfl #[.string (s.extract j s.size)] 9 (heap_alloc_new _ _) rfl (one_of (by rfl)) (by omega) (Nat.le_trans HB.out.size hgr.size) ?_
      intro g8 c8 w8 hown8 hg8 hbl8
      have HB8 : Hid (Below w.heap.size w w8) := below_app5 (HB.out.trans (Below.mono hgr HB.out.size)) hg8 (fun g' e => (owns_blk ho1 g' e).1) (Nat.le_trans HB.out.size hgr.size)
      have hsw : splitW s c = ws ++ [s.extract j s.size] := by
        unfold splitW
        have hd : s.data.toList.drop s.size = [] := List.drop_of_length_le (by rw [Array.length_toList]; exact Nat.le_refl _)
        rw [HSP.out, hd, splitGo, List.map_append, List.map_map, List.map_cons, List.map_nil, ← part_bytes, ← of_bytes rfl]
        congr 1
        exact (List.map_congr_left fun x _ => (of_bytes (a := x) rfl).symm).trans (List.map_id _)
      have HO8 : Hid (OwnWs w8 w.heap.size (.slice (some ⟨g8, 0, none⟩) (ws.length + 1) c8) (splitW s c)) := by
        show World.ownsRow _ _ _ _ _ _ _
        rw [hsw, List.length_append, List.flatMap_append]
        exact hown8
      clear hown8 hg8 hbl8 ho1 hgr HO HB HSP hsw
      go_wp2_with fail
      go_ret
      exact ⟨_, rfl, HO8.out, HB8.out⟩

theorem OwnWs.cells {w : World} {B : Nat} {v : Value} {ws : List ByteArray} (h : OwnWs w B v ws) : ∃ (a : Option Addr) (c : Nat), v = .slice a ws.length c ∧ ∀ i (hi : i < ws.length), ∃ g, a = some ⟨g, 0, none⟩ ∧ g < w.heap.size ∧ w.cell? ⟨g, i, none⟩ = some (.string ws[i]) := by
  rcases h.2 with ⟨rfl, h0⟩ | ⟨g, cap, cur, rfl, hB, hg, hnc, hcm, -, -⟩
  · exact ⟨none, 0, by rw [List.eq_nil_of_length_eq_zero h0]; rfl, fun i hi => by omega⟩
  · refine ⟨_, cap, rfl, fun i hi => ⟨g, rfl, lt_of_block hg, ?_⟩⟩
    refine owns_cell h rfl i _ ?_
    have := flat_get encS 1 (fun _ => rfl) ws i 0 hi (by decide)
    rw [Nat.mul_one, Nat.add_zero] at this
    rw [this]
    rfl
theorem ret_str5 {a b : ByteArray} (h : a = b) : Ending.returned (.string a) = .returned (.string b) := by rw [h]
/-- A word by its number, or nothing. -/
def atW (ws : List ByteArray) (i : Nat) : ByteArray := ws.getD i ⟨#[]⟩
set_option maxRecDepth 100000 in
theorem r5at_any (ws : List ByteArray) (B : Nat) (v : Value) (i : Nat) (hi : i < 1000000) (w : World) (h : OwnWs w B v ws) :
    Calls Tryz.prog 150 #[v, .int .i64 (i : Int)] w fun e w' => e = .returned (.string (atW ws i)) ∧ w' = w := by
  obtain ⟨a, c, rfl, hc⟩ := h.cells
  have HC := hidIt hc
  clear hc h
  have hi0 : (0 : Int) ≤ (i : Int) := by omega
  by_cases hl : i < ws.length
  · have hlI : (i : Int) < (ws.length : Int) := by omega
    obtain ⟨g, rfl, hg, hcell⟩ := HC.out i hl
    have HE : Hid (atW ws i = ws[i]) := by show _ = _; unfold atW; rw [List.getD_eq_getElem?_getD, List.getElem?_eq_getElem hl]; rfl
    go_enter Tryz.func150, Tryz.ntmps150
    go_wp2
    go_ret
    exact ⟨ret_str5 HE.out.symm, rfl⟩
  · have hlI : ¬ (i : Int) < (ws.length : Int) := by omega
    have HE : Hid (atW ws i = ⟨#[]⟩) := by show _ = _; unfold atW; rw [List.getD_eq_getElem?_getD, List.getElem?_eq_none (by omega)]; rfl
    go_enter Tryz.func150, Tryz.ntmps150
    go_wp2
    go_ret
    exact ⟨ret_str5 HE.out.symm, rfl⟩
/-- The rank that a word stands for, or -1. -/
def numW (s : ByteArray) : Int := if h : s.size = 1 then (if 48 ≤ (s[0]'(by omega)).toNat ∧ (s[0]'(by omega)).toNat ≤ 57 then ((s[0]'(by omega)).toNat : Int) - 48 else -1) else -1
theorem r5number_any (s : ByteArray) (hs : s.size ≤ maxLen) (w : World) :
    Calls Tryz.prog 149 #[.string s] w fun e w' => e = .returned (.int .i64 (numW s)) ∧ w' = w := by
  have HS := hidIt hs
  clear hs
  by_cases h1 : s.size = 1
  · have hz : ((s.size : Int) != 1) = false := by rw [h1]; rfl
    have h0 : 0 < s.size := by omega
    have h0I : (0 : Int) < (s.size : Int) := by omega
    have hN : numW s = if 48 ≤ (s[0]'h0).toNat ∧ (s[0]'h0).toNat ≤ 57 then ((s[0]'h0).toNat : Int) - 48 else -1 := by unfold numW; rw [dif_pos h1]
    by_cases h2 : (s[0]'h0).toNat < 48
    · have h2I : ((s[0]'h0).toNat : Int) < 48 := by omega
      rw [if_neg (by omega)] at hN
      have HN := hidIt hN
      clear hN h1
      go_enter Tryz.func149, Tryz.ntmps149
      go_wp2
      go_ret
      exact ⟨ret_int HN.out.symm, rfl⟩
    · have h2I : ¬ ((s[0]'h0).toNat : Int) < 48 := by omega
      by_cases h3 : 57 < (s[0]'h0).toNat
      · have h3I : (57 : Int) < ((s[0]'h0).toNat : Int) := by omega
        rw [if_neg (by omega)] at hN
        have HN := hidIt hN
        clear hN h1
        go_enter Tryz.func149, Tryz.ntmps149
        go_wp2
        go_ret
        exact ⟨ret_int HN.out.symm, rfl⟩
      · have h3I : ¬ (57 : Int) < ((s[0]'h0).toNat : Int) := by omega
        rw [if_pos (by omega)] at hN
        have HN := hidIt hN
        clear hN h1
        go_enter Tryz.func149, Tryz.ntmps149
        go_wp2
        go_ret
        exact ⟨ret_int HN.out.symm, rfl⟩
  · have hz : ((s.size : Int) != 1) = true := bne_iff_ne.2 (by omega)
    have hN : numW s = -1 := by unfold numW; rw [dif_neg h1]
    have HN := hidIt hN
    clear hN h1
    go_enter Tryz.func149, Tryz.ntmps149
    go_wp2
    go_ret
    exact ⟨ret_int HN.out.symm, rfl⟩
end Go.Proofs.YtfcoplplkbeljaaGreatDoor

namespace Go.Proofs.YtfcoplplkbeljaaGreatDoor
set_option linter.unusedVariables false
set_option linter.unusedSimpArgs false
open Go Go.RowKit

/-- What a line stands for: nothing, a premise, a rule, a promotion. -/
inductive It5 where
  | no
  | pm (p : Pm)
  | ru (r : Ru)
  | pr (q : Pr)

def isAxiom (s : ByteArray) : Bool := s.toList == [97, 120, 105, 111, 109]
def isPrem (s : ByteArray) : Bool := s.toList == [112, 114, 101, 109, 105, 115, 101]
def isAssume (s : ByteArray) : Bool := s.toList == [97, 115, 115, 117, 109, 101]
def isFrom (s : ByteArray) : Bool := s.toList == [102, 114, 111, 109]

def promC (ws : List ByteArray) : Pr := ⟨atW ws 1, numW (atW ws 2), litW (atW ws 4)⟩
/-- Does the candidate stand for the line? -/
def promK (s : ByteArray) (ws : List ByteArray) : Bool := litOk (atW ws 4) && (vn (atW ws 1) && (decide (0 ≤ numW (atW ws 2) ∧ numW (atW ws 2) ≤ 9) && ((promT (promC ws) (numW (atW ws 2)).toNat).toList == s.toList)))

def premKd (ws : List ByteArray) : Int := if isPrem (atW ws 0) then 2 else if isAssume (atW ws 0) then 3 else 1
def premRk (ws : List ByteArray) : Int := if isPrem (atW ws 0) then numW (atW ws 2) else 0
def premNx (ws : List ByteArray) : Nat := if isPrem (atW ws 0) then 3 else 2
def premSr (ws : List ByteArray) : ByteArray := if isFrom (atW ws (premNx ws)) then atW ws (premNx ws + 1) else ⟨#[]⟩
def premC (ws : List ByteArray) : Pm := ⟨litW (atW ws 1), premKd ws, premRk ws, premSr ws⟩
def premK (s : ByteArray) (ws : List ByteArray) : Bool := litOk (atW ws 1) && (decide (premR (premC ws) = 0) && ((premT (premC ws) (premRk ws).toNat).toList == s.toList))

/-- A word without its last byte. -/
def cutL (x : ByteArray) : ByteArray := if 0 < x.size then x.extract 0 (x.size - 1) else x
/-- The words of a body, each but the last one without its comma. -/
def bodyX : List ByteArray → List ByteArray
  | [] => []
  | [x] => [x]
  | x :: y :: r => cutL x :: bodyX (y :: r)
def ruleSt (ws : List ByteArray) : Bool := isStrict (atW ws 0)
def ruleNx (ws : List ByteArray) : Nat := if ruleSt ws then 2 else 3
def ruleBw (ws : List ByteArray) : List ByteArray := bodyX ((ws.drop (ruleNx ws)).take (ws.length - 2 - ruleNx ws))
def ruleNm5 (ws : List ByteArray) : ByteArray := if ruleSt ws then cutL (atW ws 1) else atW ws 1
def ruleRk (ws : List ByteArray) : Int := if ruleSt ws then 0 else numW ((atW ws 2).extract 0 1)
def ruleC (ws : List ByteArray) : Ru := ⟨ruleNm5 ws, ruleSt ws, ruleRk ws, (ruleBw ws).map litW, litW (atW ws (ws.length - 1))⟩
def ruleK2 (s : ByteArray) (ws : List ByteArray) : Bool := litOk (atW ws (ws.length - 1)) && (vn (ruleNm5 ws) && (decide (0 ≤ ruleRk ws ∧ ruleRk ws ≤ 9) && ((ruleT (ruleC ws) (ruleRk ws).toNat).toList == s.toList)))
def ruleK (s : ByteArray) (ws : List ByteArray) : Bool := (ruleSt ws || decide ((atW ws 2).size = 2)) && ((ruleBw ws).all litOk && ruleK2 s ws)

def itemW (s : ByteArray) (ws : List ByteArray) : It5 :=
  if isAxiom (atW ws 0) || (isPrem (atW ws 0) || isAssume (atW ws 0)) then (if premK s ws then .pm (premC ws) else .no)
  else if isStrict (atW ws 0) || isRule (atW ws 0) then (if ruleK s ws then .ru (ruleC ws) else .no)
  else if isPromote (atW ws 0) then (if promK s ws then .pr (promC ws) else .no)
  else .no
def itemOf (s : ByteArray) : It5 := itemW s (splitW s 32)

/-! Splitting what was joined. -/
theorem splitGo_word (c : UInt8) : ∀ (w pre l : List UInt8), (∀ b ∈ w, b ≠ c) → splitGo c pre (w ++ l) = splitGo c (pre ++ w) l
  | [], pre, l, _ => by simp
  | b :: w, pre, l, h => by
    rw [List.cons_append, splitGo, if_neg (h b List.mem_cons_self), splitGo_word c w (pre ++ [b]) l (fun x hx => h x (List.mem_cons_of_mem _ hx))]
    simp
theorem splitGo_join : ∀ ws : List (List UInt8), ws ≠ [] → (∀ w ∈ ws, ∀ b ∈ w, b ≠ 32) → splitGo 32 [] (joinS ws) = ws
  | [], h, _ => absurd rfl h
  | [w], _, h => by
    have := splitGo_word 32 w [] [] (h w (List.mem_singleton.2 rfl))
    rw [List.append_nil, List.nil_append, splitGo] at this
    exact this
  | w :: v :: r, _, h => by
    show splitGo 32 [] (w ++ 32 :: joinS (v :: r)) = _
    rw [splitGo_word 32 w [] _ (h w List.mem_cons_self), List.nil_append, splitGo, if_pos rfl, splitGo_join (v :: r) (by simp) (fun x hx => h x (List.mem_cons_of_mem _ hx))]
theorem split_words (s : ByteArray) (ws : List ByteArray) (hne : ws ≠ []) (e : s.data.toList = joinS (ws.map (·.data.toList))) (h : ∀ w ∈ ws, ∀ b ∈ w.data.toList, plainC b = true) : splitW s 32 = ws := by
  unfold splitW
  rw [e, splitGo_join _ (by simpa using hne) (fun w hw b hb e2 => ?_), List.map_map]
  · exact (List.map_congr_left fun x _ => (of_bytes (a := x) rfl).symm).trans (List.map_id _)
  · obtain ⟨v, hv, rfl⟩ := List.mem_map.1 hw
    have := h v hv b hb
    rw [e2] at this
    exact absurd this (by decide)
theorem splitGo_ne (c : UInt8) : ∀ l pre, splitGo c pre l ≠ []
  | [], pre => by simp [splitGo]
  | b :: l, pre => by
    rw [splitGo]
    split
    · simp
    · exact splitGo_ne c l _
theorem split_pos (s : ByteArray) (c : UInt8) : 0 < (splitW s c).length := by
  unfold splitW
  rw [List.length_map]
  exact List.length_pos_iff.2 (splitGo_ne c _ _)

theorem toL_eq {a b : ByteArray} (h : (a.toList == b.toList) = true) : a = b := same_eq h
theorem num_dig : ∀ n : Fin 10, numW (digT n.val) = (n.val : Int) := by decide +kernel
theorem num_dig' {n : Nat} (h : n < 10) : numW (digT n) = (n : Int) := num_dig ⟨n, h⟩
theorem dig_sz1 : ∀ n : Fin 10, (digT n.val).size = 1 := by decide +kernel

/-! Good things are read back. -/
theorem item_prem {p : Pm} (h : PmGood p) : itemOf (premT p p.rank.toNat) = .pm p := by
  have hs : splitW (premT p p.rank.toNat) 32 = premWB p p.rank.toNat := split_words _ _ (by unfold premWB; simp) (premT_words p _) (fun w hw => (prem_plain h w hw).2)
  unfold itemOf
  rw [hs]
  obtain ⟨n, hn, hr⟩ := rank_nat h.rank
  obtain ⟨l1, l2⟩ := litW_back h.lit
  have hnum := num_dig' hn
  have e1 : p.rank.toNat = n := by omega
  have hsrc : p.src.size = 0 → p.src = ⟨#[]⟩ := empty_of_size5
  have h0 : atW (premWB p p.rank.toNat) 0 = wordT p.kind := rfl
  have h1 : atW (premWB p p.rank.toNat) 1 = litT p.lit := rfl
  have hk1 : isAxiom (wordT 1) = true ∧ isPrem (wordT 1) = false ∧ isAssume (wordT 1) = false := by decide +kernel
  have hk2 : isPrem (wordT 2) = true ∧ isAssume (wordT 2) = false := by decide +kernel
  have hk3 : isPrem (wordT 3) = false ∧ isAssume (wordT 3) = true := by decide +kernel
  have hfr : isFrom fromT = true := by decide +kernel
  have hfe : isFrom ⟨#[]⟩ = false := by decide +kernel
  have hkd : premKd (premWB p p.rank.toNat) = p.kind := by
    unfold premKd
    rw [h0]
    rcases h.kind with k | k | k <;> rw [k]
    · rw [hk1.2.1, hk1.2.2]; rfl
    · rw [hk2.1]; rfl
    · rw [hk3.1, hk3.2]; rfl
  have hpk : isPrem (wordT p.kind) = decide (p.kind = 2) := by
    rcases h.kind with k | k | k <;> rw [k]
    · rw [hk1.2.1]; rfl
    · rw [hk2.1]; rfl
    · rw [hk3.1]; rfl
  have hrk : premRk (premWB p p.rank.toNat) = p.rank := by
    unfold premRk
    rw [h0, hpk]
    by_cases k : p.kind = 2
    · have h2 : atW (premWB p p.rank.toNat) 2 = digT n := by unfold atW premWB; simp [k, e1]
      rw [h2, hnum]; simp [k, hr]
    · simp [k, h.none k]
  have hsr : premSr (premWB p p.rank.toNat) = p.src := by
    unfold premSr premNx
    rw [h0, hpk]
    by_cases k : p.kind = 2 <;> by_cases k0 : p.src.size = 0
    · have e2 : atW (premWB p p.rank.toNat) 3 = ⟨#[]⟩ := by unfold atW premWB; simp [k, k0]
      simp [k, e2, hfe, hsrc k0]
    · have e2 : atW (premWB p p.rank.toNat) 3 = fromT := by unfold atW premWB; simp [k, k0]
      have e3 : atW (premWB p p.rank.toNat) 4 = p.src := by unfold atW premWB; simp [k, k0]
      simp [k, e2, e3, hfr]
    · have e2 : atW (premWB p p.rank.toNat) 2 = ⟨#[]⟩ := by unfold atW premWB; simp [k, k0]
      simp [k, e2, hfe, hsrc k0]
    · have e2 : atW (premWB p p.rank.toNat) 2 = fromT := by unfold atW premWB; simp [k, k0]
      have e3 : atW (premWB p p.rank.toNat) 3 = p.src := by unfold atW premWB; simp [k, k0]
      simp [k, e2, e3, hfr]
  have hC : premC (premWB p p.rank.toNat) = p := by
    unfold premC
    rw [h1, l1, hkd, hrk, hsr]
  have hR : premR p = 0 := by
    unfold premR
    rw [if_neg (not_not_intro h.kind), if_neg]
    unfold premB
    have hb : rankB p.rank (decide (p.kind = 2)) = true := by
      unfold rankB
      by_cases k : p.kind = 2
      · have := h.rank; simp [k]; omega
      · simp [k, h.none k]
    have hsb : srcB p.src = true := by
      unfold srcB
      rw [Bool.or_eq_true, decide_eq_true_eq]
      exact h.src
    rw [h.lit, hb, hsb]
    decide
  have hK : premK (premT p p.rank.toNat) (premWB p p.rank.toNat) = true := by
    unfold premK
    rw [h1, l2, hC, hrk, hR]
    simp
  unfold itemW
  rw [hK, hC, h0]
  have hgo : (isAxiom (wordT p.kind) || (isPrem (wordT p.kind) || isAssume (wordT p.kind))) = true := by
    rcases h.kind with k | k | k <;> rw [k]
    · rw [hk1.1]; rfl
    · rw [hk2.1]; cases isAxiom (wordT 2) <;> rfl
    · rw [hk3.2]; cases isAxiom (wordT 3) <;> cases isPrem (wordT 3) <;> rfl
  rw [if_pos hgo, if_pos rfl]

theorem cutL_back (s : ByteArray) (c : UInt8) : cutL (s ++ ⟨#[c]⟩) = s := by
  have hsz : (s ++ ⟨#[c]⟩ : ByteArray).size = s.size + 1 := by rw [ByteArray.size_append]; rfl
  unfold cutL
  rw [if_pos (by omega), hsz, Nat.add_sub_cancel]
  apply bytes_eq
  rw [Lib.extract_data, List.drop_zero, Nat.sub_zero]
  have e : (s ++ ⟨#[c]⟩ : ByteArray).data.toList = s.data.toList ++ [c] := by simp
  rw [e, Lib.size_eq s, List.take_left]
theorem bodyX_back : ∀ xs : List Lt, (∀ x ∈ xs, vn x.name = true) → (bodyX (bodyWB xs)).map litW = xs ∧ (bodyX (bodyWB xs)).all litOk = true
  | [], _ => ⟨rfl, rfl⟩
  | [x], h => by
    have hx := h x (List.mem_singleton.2 rfl)
    simp [bodyWB, bodyX, (litW_back hx).1, (litW_back hx).2]
  | [x, y], h => by
    have hx := h x List.mem_cons_self
    have hy := h y (by simp)
    have ht : cutL (litT x ++ comT) = litT x := cutL_back _ _
    simp [bodyWB, bodyX, ht, (litW_back hx).1, (litW_back hx).2, (litW_back hy).1, (litW_back hy).2]
  | x :: y :: z :: r, h => by
    have hx := h x List.mem_cons_self
    have ih := bodyX_back (y :: z :: r) (fun z hz => h z (List.mem_cons_of_mem _ hz))
    have ht : cutL (litT x ++ comT) = litT x := cutL_back _ _
    have e : bodyX (bodyWB (x :: y :: z :: r)) = cutL (litT x ++ comT) :: bodyX (bodyWB (y :: z :: r)) := rfl
    rw [e, ht]
    exact ⟨by rw [List.map_cons, ih.1, (litW_back hx).1], by rw [List.all_cons, ih.2, (litW_back hx).2]; rfl⟩

theorem item_rule {r : Ru} (h : RuWell r) : itemOf (ruleT r r.rank.toNat) = .ru r := by
  have hs : splitW (ruleT r r.rank.toNat) 32 = ruleWB r r.rank.toNat := split_words _ _ (by unfold ruleWB; simp) (ruleT_words r _) (fun w hw => (ruleW_plain h w hw).2)
  unfold itemOf
  rw [hs]
  obtain ⟨n, hn, hr⟩ := rank_nat h.rank
  obtain ⟨l1, l2⟩ := litW_back h.head
  have hnum := num_dig' hn
  have hdz := dig_sz1 ⟨n, hn⟩
  have e1 : r.rank.toNat = n := by omega
  obtain ⟨b1, b2⟩ := bodyX_back r.body h.body
  have hbl := bodyWB_len r.body
  have hh0 : atW (ruleWB r r.rank.toNat) 0 = if r.strict then strictT else ruleHT := by unfold atW ruleWB ruleH; cases r.strict <;> rfl
  have hst : ruleSt (ruleWB r r.rank.toNat) = r.strict := by
    unfold ruleSt
    rw [hh0]
    cases r.strict <;> decide +kernel
  have hlen : (ruleWB r r.rank.toNat).length = (if r.strict then 2 else 3) + r.body.length + 2 := by
    unfold ruleWB ruleH
    cases r.strict <;> simp [hbl] <;> omega
  have hnx : ruleNx (ruleWB r r.rank.toNat) = if r.strict then 2 else 3 := by unfold ruleNx; rw [hst]
  have hbw : ruleBw (ruleWB r r.rank.toNat) = bodyX (bodyWB r.body) := by
    unfold ruleBw
    rw [hnx, hlen]
    congr 1
    have ed : (ruleWB r r.rank.toNat).drop (if r.strict then 2 else 3) = bodyWB r.body ++ [arrowT r.strict, litT r.head] := by
      unfold ruleWB ruleH
      cases r.strict <;> rfl
    rw [ed, show (if r.strict then 2 else 3) + r.body.length + 2 - 2 - (if r.strict then 2 else 3) = (bodyWB r.body).length by rw [hbl]; omega, List.take_left]
  have hlast : atW (ruleWB r r.rank.toNat) ((ruleWB r r.rank.toNat).length - 1) = litT r.head := by
    have e : ruleWB r r.rank.toNat = (ruleH r r.rank.toNat ++ (bodyWB r.body ++ [arrowT r.strict])) ++ [litT r.head] := by unfold ruleWB; simp
    rw [e]
    unfold atW
    rw [List.getD_eq_getElem?_getD, List.length_append, List.length_singleton, Nat.add_sub_cancel, List.getElem?_append_right (Nat.le_refl _), Nat.sub_self]
    rfl
  have hnm : ruleNm5 (ruleWB r r.rank.toNat) = r.name := by
    unfold ruleNm5
    rw [hst]
    cases hst' : r.strict
    · show atW _ 1 = _
      unfold atW ruleWB ruleH
      rw [hst']
      rfl
    · have e : atW (ruleWB r r.rank.toNat) 1 = r.name ++ colT := by unfold atW ruleWB ruleH; rw [hst']; rfl
      rw [e]
      exact cutL_back _ _
  have hx2 : r.strict = false → atW (ruleWB r r.rank.toNat) 2 = digT n ++ colT := fun k => by unfold atW ruleWB ruleH; rw [k, e1]; rfl
  have hrk : ruleRk (ruleWB r r.rank.toNat) = r.rank := by
    unfold ruleRk
    rw [hst]
    cases k : r.strict
    · show numW _ = _
      rw [hx2 k]
      have e : (digT n ++ colT).extract 0 1 = digT n := by
        have := cutL_back (digT n) 58
        unfold cutL at this
        have hz : (digT n ++ ⟨#[58]⟩ : ByteArray).size = 2 := by rw [ByteArray.size_append, show (digT n).size = 1 from hdz]; rfl
        rw [if_pos (by omega), hz] at this
        exact this
      rw [e, hnum, hr]
    · exact (h.none k).symm
  have hC : ruleC (ruleWB r r.rank.toNat) = r := by
    unfold ruleC
    rw [hnm, hst, hrk, hbw, b1, hlast, l1]
  have hK : ruleK (ruleT r r.rank.toNat) (ruleWB r r.rank.toNat) = true := by
    unfold ruleK ruleK2
    rw [hst, hbw, b2, hlast, l2, hnm, h.name, hrk, decide_eq_true h.rank, hC]
    have hz : (r.strict || decide ((atW (ruleWB r r.rank.toNat) 2).size = 2)) = true := by
      cases k : r.strict
      · rw [hx2 k, ByteArray.size_append, show (digT n).size = 1 from hdz]; rfl
      · rfl
    rw [hz]
    simp
  unfold itemW
  rw [hK, hC, hh0]
  have g1 : (isAxiom (if r.strict then strictT else ruleHT) || (isPrem (if r.strict then strictT else ruleHT) || isAssume (if r.strict then strictT else ruleHT))) = false := by cases r.strict <;> decide +kernel
  have g2 : (isStrict (if r.strict then strictT else ruleHT) || isRule (if r.strict then strictT else ruleHT)) = true := by cases r.strict <;> decide +kernel
  rw [g1, g2, if_neg (by decide), if_pos rfl, if_pos rfl]

theorem item_prom {p : Pr} (h : PrGood p) : itemOf (promT p p.rank.toNat) = .pr p := by
  have hs : splitW (promT p p.rank.toNat) 32 = promWB p p.rank.toNat := split_words _ _ (by unfold promWB; simp) (promT_words p _) (fun w hw => (prom_plain h w hw).2)
  unfold itemOf
  rw [hs]
  obtain ⟨n, hn, hr⟩ := rank_nat h.rank
  obtain ⟨l1, l2⟩ := litW_back h.lit
  have hnum := num_dig' hn
  have e1 : p.rank.toNat = n := by omega
  have h0 : atW (promWB p p.rank.toNat) 0 = promoteT := rfl
  have h1 : atW (promWB p p.rank.toNat) 1 = p.rule := rfl
  have h2 : atW (promWB p p.rank.toNat) 2 = digT n := by unfold atW promWB; rw [e1]; rfl
  have h4 : atW (promWB p p.rank.toNat) 4 = litT p.lit := rfl
  have hC : promC (promWB p p.rank.toNat) = p := by
    unfold promC
    rw [h1, h2, h4, l1, hnum, ← hr]
  have hK : promK (promT p p.rank.toNat) (promWB p p.rank.toNat) = true := by
    unfold promK
    rw [hC, h1, h2, h4, l2, h.rule, hnum, ← hr, decide_eq_true h.rank]
    simp
  unfold itemW
  rw [hK, hC, h0]
  have g1 : (isAxiom promoteT || (isPrem promoteT || isAssume promoteT)) = false := by decide +kernel
  have g2 : (isStrict promoteT || isRule promoteT) = false := by decide +kernel
  have g3 : isPromote promoteT = true := by decide +kernel
  rw [g1, g2, g3, if_neg (by decide), if_neg (by decide), if_pos rfl, if_pos rfl]

/-! What is read is good, and its text is the line. -/
theorem litW_vn {x : ByteArray} (h : litOk x = true) : vn (litW x).name = true := by
  have h2 : vn (bare x) = true := h
  show vn (parsedName x) = true
  unfold parsedName
  rw [if_pos h2]
  exact h2
theorem premR_good {p : Pm} (h : premR p = 0) : PmGood p := by
  have : premE ⟨[p], [], []⟩ p 0 = 0 := by
    rw [premE_R, if_neg (by simp [h]), if_neg]
    show ¬ posI (hasLit p.lit) [p] < _
    rw [posI_at (xs := [p]) (k := 0) (Nat.lt_succ_self 0) (show hasLit p.lit p = true by unfold hasLit; simp) (fun j hj => by omega)]
    decide
  exact premE_good this
theorem item_pm {s : ByteArray} {p : Pm} (h : itemOf s = .pm p) : PmGood p ∧ s = premT p p.rank.toNat := by
  unfold itemOf itemW at h
  generalize splitW s 32 = ws at h
  split at h
  · split at h
    · rename_i hk
      injection h with h
      unfold premK at hk
      rw [Bool.and_eq_true, Bool.and_eq_true, decide_eq_true_eq] at hk
      obtain ⟨-, k2, k3⟩ := hk
      subst h
      exact ⟨premR_good k2, (toL_eq k3).symm⟩
    · cases h
  · split at h
    · split at h <;> cases h
    · split at h
      · split at h <;> cases h
      · cases h
theorem item_ru {s : ByteArray} {r : Ru} (h : itemOf s = .ru r) : RuWell r ∧ s = ruleT r r.rank.toNat := by
  unfold itemOf itemW at h
  generalize splitW s 32 = ws at h
  split at h
  · split at h <;> cases h
  · split at h
    · split at h
      · rename_i hk
        injection h with h
        unfold ruleK ruleK2 at hk
        rw [Bool.and_eq_true, Bool.and_eq_true, Bool.and_eq_true, Bool.and_eq_true, Bool.and_eq_true, decide_eq_true_eq] at hk
        obtain ⟨-, k1, k2, k3, k4, k5⟩ := hk
        subst h
        refine ⟨⟨k3, k4, fun hs => ?_, litW_vn k2, fun x hx => ?_⟩, (toL_eq k5).symm⟩
        · have hs' : ruleSt ws = true := hs
          show ruleRk ws = 0
          unfold ruleRk
          rw [if_pos hs']
        · obtain ⟨y, hy, rfl⟩ := List.mem_map.1 (show x ∈ (ruleBw ws).map litW from hx)
          exact litW_vn (List.all_eq_true.1 k1 y hy)
      · cases h
    · split at h
      · split at h <;> cases h
      · cases h
theorem item_pr {s : ByteArray} {q : Pr} (h : itemOf s = .pr q) : PrGood q ∧ s = promT q q.rank.toNat := by
  unfold itemOf itemW at h
  generalize splitW s 32 = ws at h
  split at h
  · split at h <;> cases h
  · split at h
    · split at h <;> cases h
    · split at h
      · split at h
        · rename_i hk
          injection h with h
          unfold promK at hk
          rw [Bool.and_eq_true, Bool.and_eq_true, Bool.and_eq_true, decide_eq_true_eq] at hk
          obtain ⟨k1, k2, k3, k4⟩ := hk
          subst h
          exact ⟨⟨k2, k3, litW_vn k1⟩, (toL_eq k4).symm⟩
        · cases h
      · cases h

/-! The program's side: what is accepted is good, and its text is the line. -/
theorem rdName_vn {r : Rd} {sg : ByteArray} (h : (rdName r sg).2.bad = false) : r.bad = false ∧ vn (rdName r sg).1 = true := by
  refine ⟨or_false_l h, ?_⟩
  have := or_false_r h
  have h2 : vn (trimT (hdW r.ws) sg) = true := by simpa using this
  exact h2
theorem rdLit_vn {r : Rd} {sg : ByteArray} (h : (rdLit r sg).2.bad = false) : r.bad = false ∧ vn (rdLit r sg).1.name = true := by
  refine ⟨or_false_l h, litW_vn ?_⟩
  have := or_false_r h
  simpa using this
theorem rdBody_vn {n : Nat} {r : Rd} (h : (rdBody n r).2.bad = false) : r.bad = false ∧ ∀ x ∈ (rdBody n r).1, vn x.name = true := by
  refine ⟨or_false_l h, fun x hx => ?_⟩
  obtain ⟨y, hy, rfl⟩ := List.mem_map.1 hx
  have h2 := List.any_eq_false.1 (or_false_r h) y hy
  exact litW_vn (by simpa using h2)
theorem rdProm_well {r : Rd} (h : (rdProm r).2.bad = false) : PrGood (rdProm r).1 := by
  have h1 := rdLit_vn (r := rdWord (rdProm1 r).2) h
  have h2 := rdRank_fit (r := (rdName r nilT).2) h1.1
  have h3 := rdName_vn h2.1
  exact ⟨h3.2, h2.2, h1.2⟩
theorem rdRule_well {st : Bool} {r : Rd} (h : (rdRule st r).2.bad = false) : RuWell (rdRule st r).1 := by
  have h1 := rdLit_vn (r := rdWord (rdRule2 st r).2) h
  have h2 := rdBody_vn (r := (rdRule1 st r).2) h1.1
  have h3 : vn (rdName r colT).1 = true ∧ (0 ≤ (rdRule1 st r).1 ∧ (rdRule1 st r).1 ≤ 9) ∧ (st = true → (rdRule1 st r).1 = 0) := by
    cases st
    · have k := rdRank_fit (r := (rdName r colT).2) h2.1
      exact ⟨(rdName_vn k.1).2, k.2, fun e => by cases e⟩
    · exact ⟨(rdName_vn (r := r) h2.1).2, ⟨by show (0 : Int) ≤ 0; omega, by show (0 : Int) ≤ 9; omega⟩, fun _ => rfl⟩
  exact ⟨h3.1, h3.2.1, h3.2.2, h1.2, h2.2⟩
theorem rdPrem_well {s : ByteArray} {r : Rd} (h : (rdPrem (kindT s) r).2.bad = false) : PmGood (rdPrem (kindT s) r).1 := by
  have hf := rdPrem_fit h
  have h3 : (rdPrem2 (kindT s) r).2.bad = false ∧ ((rdPrem3 (kindT s) r).1.size = 0 ∨ vn (rdPrem3 (kindT s) r).1 = true) := by
    have h' : (rdPrem3 (kindT s) r).2.bad = false := h
    unfold rdPrem3 at h' ⊢
    split
    · rename_i k
      rw [if_pos k] at h'
      exact ⟨h', .inl rfl⟩
    · rename_i k
      rw [if_neg k] at h'
      have k2 := rdName_vn h'
      exact ⟨k2.1, .inr k2.2⟩
  have h2 : (rdPrem1 (kindT s) r).2.bad = false ∧ (kindT s ≠ 2 → (rdPrem2 (kindT s) r).1 = 0) := by
    have h' := h3.1
    unfold rdPrem2 at h' ⊢
    split
    · rename_i k
      rw [if_pos k] at h'
      exact ⟨(rdRank_fit h').1, fun e => absurd k e⟩
    · rename_i k
      rw [if_neg k] at h'
      exact ⟨h', fun _ => rfl⟩
  have h1 := rdLit_vn (r := ⟨r.ws, r.bad || !(kindT s != 0)⟩) h2.1
  exact ⟨hf.1, h1.2, hf.2.1, h2.2, h3.2⟩

/-- What an item adds to a base, if its place is right. -/
def addI (b : Bs) : It5 → Option Bs
  | .no => none
  | .pm p => if b.rules = [] ∧ b.proms = [] then some ⟨b.prems ++ [p], b.rules, b.proms⟩ else none
  | .ru r => if b.proms = [] then some ⟨b.prems, b.rules ++ [r], b.proms⟩ else none
  | .pr q => some ⟨b.prems, b.rules, b.proms ++ [q]⟩
theorem add_is (b : Bs) (s : ByteArray) (h : (addL b s).2 = true) : addI b (itemOf s) = some (addL b s).1 := by
  unfold addL addL2 at *
  generalize wordsOf s = ws at *
  split at h
  · rename_i h1
    rw [if_pos h1]
    simp only [addRu, Bool.and_eq_true, decide_eq_true_eq, List.length_eq_zero_iff] at h ⊢
    have e := same_eq h.1.2
    have hw := rdRule_well (by simpa using h.1.1)
    rw [e, item_rule hw]
    show (if b.proms = [] then _ else none) = _
    rw [if_pos h.2]
  · rename_i h1
    rw [if_neg h1]
    split at h
    · rename_i h2
      rw [if_pos h2]
      simp only [addPr, Bool.and_eq_true] at h ⊢
      have e := same_eq h.2
      have hw := rdProm_well (by simpa using h.1)
      rw [e, item_prom hw]
      rfl
    · rename_i h2
      rw [if_neg h2]
      simp only [addPm, Bool.and_eq_true, decide_eq_true_eq] at h ⊢
      have e := same_eq h.1.2
      have hw := rdPrem_well (by simpa using h.1.1)
      have e1 : b.rules = [] := List.length_eq_zero_iff.1 (by omega)
      have e2 : b.proms = [] := List.length_eq_zero_iff.1 (by omega)
      rw [e, item_prem hw]
      show (if b.rules = [] ∧ b.proms = [] then _ else none) = _
      rw [if_pos ⟨e1, e2⟩]
theorem add_not (b : Bs) (s : ByteArray) (h : (addL b s).2 = false) : addI b (itemOf s) = none := by
  cases hi : itemOf s with
  | no => rfl
  | pm p =>
    obtain ⟨hg, e⟩ := item_pm hi
    show (if b.rules = [] ∧ b.proms = [] then _ else none) = _
    by_cases k : b.rules = [] ∧ b.proms = []
    · rw [e, add_prem hg b k.1 k.2] at h
      cases h
    · rw [if_neg k]
  | ru r =>
    obtain ⟨hg, e⟩ := item_ru hi
    show (if b.proms = [] then _ else none) = _
    by_cases k : b.proms = []
    · rw [e, addW_rule hg b k] at h
      cases h
    · rw [if_neg k]
  | pr q =>
    obtain ⟨hg, e⟩ := item_pr hi
    rw [e, add_prom hg b] at h
    cases h

/-- The reference's loop over lines, the number of the first one at hand. -/
def refL : Nat → Bs → List ByteArray → Bs × Nat
  | _, b, [] => (b, 0)
  | n, b, [l] => if l.size = 0 then (b, 0) else (b, n)
  | n, b, l :: m :: r => match addI b (itemOf l) with
    | none => (b, n)
    | some b' => refL (n + 1) b' (m :: r)
theorem split_line (s : ByteArray) : splitW s 10 = if 0 ≤ ixN s then lineN s :: splitW (restN s) 10 else [s] := by
  by_cases h : 0 ≤ ixN s
  · rw [if_pos h]
    have hcb := cut_back s h
    have hno : ∀ b ∈ (lineN s).data.toList, b ≠ 10 := by
      rcases ixN_cases s with h1 | ⟨k, h1, hk⟩
      · omega
      · have he : Lib.indexByte s.data.toList 10 = (k : Int) := h1
        have h2 := (Lib.indexByte_some he).2
        intro b hb e
        unfold lineN at hb
        rw [if_pos h, h1, Lib.extract_data] at hb
        have e1 : ((k : Int)).toNat = k := by omega
        rw [e1, List.drop_zero, Nat.sub_zero] at hb
        obtain ⟨i, hi, hbi⟩ := List.getElem_of_mem hb
        rw [List.getElem_take] at hbi
        rw [List.length_take] at hi
        have := h2 i (by omega)
        rw [List.getElem?_eq_getElem (by omega), hbi, e] at this
        exact this rfl
    unfold splitW
    rw [hcb, splitGo_word 10 _ [] _ hno, List.nil_append, splitGo, if_pos rfl, List.map_cons, bk]
  · rw [if_neg h]
    have hno : ∀ b ∈ s.data.toList, b ≠ 10 := by
      rcases ixN_cases s with h1 | ⟨k, h1, hk⟩
      · have he : Lib.indexByte s.data.toList 10 = -1 := h1
        intro b hb e
        subst e
        obtain ⟨i, hi, hbi⟩ := List.getElem_of_mem hb
        exact Lib.indexByte_none he i (by rw [List.getElem?_eq_getElem hi, hbi])
      · omega
    have := splitGo_word 10 s.data.toList [] [] hno
    rw [List.append_nil, List.nil_append, splitGo] at this
    unfold splitW
    rw [this, List.map_cons, List.map_nil, bk]
theorem rest_size (s : ByteArray) (h : 0 ≤ ixN s) : (restN s).size < s.size := by
  have hcb := congrArg List.length (cut_back s h)
  have h1 := Lib.size_eq s
  have h2 := Lib.size_eq (restN s)
  rw [List.length_append, List.length_cons] at hcb
  omega
theorem lines_ref : ∀ (f n : Nat) (b : Bs) (s : ByteArray), s.size < f → linesE f n b s = refL n b (splitW s 10)
  | 0, n, b, s, h => by omega
  | f + 1, n, b, s, h => by
    rw [linesE, split_line s]
    by_cases hi : 0 ≤ ixN s
    · have h0 : s.size ≠ 0 := by have := rest_size s hi; omega
      rw [if_neg h0, if_pos hi, decide_eq_true hi]
      obtain ⟨m, r, hm⟩ : ∃ m r, splitW (restN s) 10 = m :: r := by
        cases hx : splitW (restN s) 10 with
        | nil => have := split_pos (restN s) 10; rw [hx] at this; simp at this
        | cons m r => exact ⟨m, r, rfl⟩
      rw [hm, refL, ← hm]
      cases ha : (addL b (lineN s)).2
      · rw [add_not b _ ha]
        rfl
      · rw [add_is b _ ha, Bool.true_and, if_pos rfl]
        exact lines_ref f (n + 1) _ (restN s) (by have := rest_size s hi; omega)
    · rw [if_neg hi, refL, decide_eq_false hi]
      by_cases h0 : s.size = 0
      · rw [if_pos h0, if_pos h0]
      · rw [if_neg h0, if_neg h0]
        rfl
/-- Parse by the reference's loop. -/
theorem parse5_ref (s : ByteArray) : parse5 s = if 4096 < s.size then (⟨[], [], []⟩, 0, 2) else parse5a (refL 1 ⟨[], [], []⟩ (splitW s 10)) := by
  unfold parse5
  rw [lines_ref _ _ _ _ (Nat.lt_succ_self _)]
end Go.Proofs.YtfcoplplkbeljaaGreatDoor

namespace Go.Proofs.YtfcoplplkbeljaaGreatDoor
set_option linter.unusedVariables false
set_option linter.unusedSimpArgs false
open Go Go.RowKit

/-- A world in which sixteen cells of a block were written. -/
def put16 (w : World) (b : Nat) (v0 v1 v2 v3 v4 v5 v6 v7 v8 v9 v10 v11 v12 v13 v14 v15 : Value) : World := ((((((((((((((((w.setCell ⟨b, 0, none⟩ v0).setCell ⟨b, 1, none⟩ v1).setCell ⟨b, 2, none⟩ v2).setCell ⟨b, 3, none⟩ v3).setCell ⟨b, 4, none⟩ v4).setCell ⟨b, 5, none⟩ v5).setCell ⟨b, 6, none⟩ v6).setCell ⟨b, 7, none⟩ v7).setCell ⟨b, 8, none⟩ v8).setCell ⟨b, 9, none⟩ v9).setCell ⟨b, 10, none⟩ v10).setCell ⟨b, 11, none⟩ v11).setCell ⟨b, 12, none⟩ v12).setCell ⟨b, 13, none⟩ v13).setCell ⟨b, 14, none⟩ v14).setCell ⟨b, 15, none⟩ v15)
section
variable {w w0 : World} {b n : Nat} {t : TypeId}
theorem put16_heap {a0 a1 a2 a3 a4 a5 a6 a7 a8 a9 a10 a11 a12 a13 a14 a15 : Value} (h : w.heap[b]? = some (.cells #[a0, a1, a2, a3, a4, a5, a6, a7, a8, a9, a10, a11, a12, a13, a14, a15] t (0, 0))) (v0 v1 v2 v3 v4 v5 v6 v7 v8 v9 v10 v11 v12 v13 v14 v15 : Value) : (put16 w b v0 v1 v2 v3 v4 v5 v6 v7 v8 v9 v10 v11 v12 v13 v14 v15).heap[b]? = some (.cells #[v0, v1, v2, v3, v4, v5, v6, v7, v8, v9, v10, v11, v12, v13, v14, v15] t (0, 0)) := by
  have k := (set_cells (i := 15) (u := v15) (set_cells (i := 14) (u := v14) (set_cells (i := 13) (u := v13) (set_cells (i := 12) (u := v12) (set_cells (i := 11) (u := v11) (set_cells (i := 10) (u := v10) (set_cells (i := 9) (u := v9) (set_cells (i := 8) (u := v8) (set_cells (i := 7) (u := v7) (set_cells (i := 6) (u := v6) (set_cells (i := 5) (u := v5) (set_cells (i := 4) (u := v4) (set_cells (i := 3) (u := v3) (set_cells (i := 2) (u := v2) (set_cells (i := 1) (u := v1) (set_cells (i := 0) (u := v0) h))))))))))))))))
  simp only [List.setIfInBounds_toArray, List.set_cons_zero, List.set_cons_succ] at k
  exact k
theorem put16_other (v0 v1 v2 v3 v4 v5 v6 v7 v8 v9 v10 v11 v12 v13 v14 v15 : Value) {k : Nat} (hk : k ≠ b) : (put16 w b v0 v1 v2 v3 v4 v5 v6 v7 v8 v9 v10 v11 v12 v13 v14 v15).heap[k]? = w.heap[k]? := by
  unfold put16
  rw [Below.heap_setCell _ ⟨b, 15, none⟩ _ k hk, Below.heap_setCell _ ⟨b, 14, none⟩ _ k hk, Below.heap_setCell _ ⟨b, 13, none⟩ _ k hk, Below.heap_setCell _ ⟨b, 12, none⟩ _ k hk, Below.heap_setCell _ ⟨b, 11, none⟩ _ k hk, Below.heap_setCell _ ⟨b, 10, none⟩ _ k hk, Below.heap_setCell _ ⟨b, 9, none⟩ _ k hk, Below.heap_setCell _ ⟨b, 8, none⟩ _ k hk, Below.heap_setCell _ ⟨b, 7, none⟩ _ k hk, Below.heap_setCell _ ⟨b, 6, none⟩ _ k hk, Below.heap_setCell _ ⟨b, 5, none⟩ _ k hk, Below.heap_setCell _ ⟨b, 4, none⟩ _ k hk, Below.heap_setCell _ ⟨b, 3, none⟩ _ k hk, Below.heap_setCell _ ⟨b, 2, none⟩ _ k hk, Below.heap_setCell _ ⟨b, 1, none⟩ _ k hk, Below.heap_setCell _ ⟨b, 0, none⟩ _ k hk]
theorem put16_below (h : Below n w0 w) (hb : n ≤ b) (v0 v1 v2 v3 v4 v5 v6 v7 v8 v9 v10 v11 v12 v13 v14 v15 : Value) : Below n w0 (put16 w b v0 v1 v2 v3 v4 v5 v6 v7 v8 v9 v10 v11 v12 v13 v14 v15) := (below_set5 (below_set5 (below_set5 (below_set5 (below_set5 (below_set5 (below_set5 (below_set5 (below_set5 (below_set5 (below_set5 (below_set5 (below_set5 (below_set5 (below_set5 (below_set5 h hb (i := 0) (u := v0)) hb (i := 1) (u := v1)) hb (i := 2) (u := v2)) hb (i := 3) (u := v3)) hb (i := 4) (u := v4)) hb (i := 5) (u := v5)) hb (i := 6) (u := v6)) hb (i := 7) (u := v7)) hb (i := 8) (u := v8)) hb (i := 9) (u := v9)) hb (i := 10) (u := v10)) hb (i := 11) (u := v11)) hb (i := 12) (u := v12)) hb (i := 13) (u := v13)) hb (i := 14) (u := v14)) hb (i := 15) (u := v15))
end

/-- A line's value: its kind, a premise, a rule with its body's value, a promotion. -/
def lineV (k : Int) (p : Pm) (r : Ru) (bv : Value) (q : Pr) : Value := .agg #[.int .i64 k, .bool p.lit.neg, .string p.lit.name, .int .i64 p.kind, .int .i64 p.rank, .string p.src, .string r.name, .bool r.strict, .int .i64 r.rank, bv, .bool r.head.neg, .string r.head.name, .string q.rule, .int .i64 q.rank, .bool q.lit.neg, .string q.lit.name]
def noPm : Pm := ⟨⟨false, ⟨#[]⟩⟩, 0, 0, ⟨#[]⟩⟩
def noPr : Pr := ⟨⟨#[]⟩, 0, ⟨false, ⟨#[]⟩⟩⟩
def noRu : Ru := ⟨⟨#[]⟩, false, 0, [], ⟨false, ⟨#[]⟩⟩⟩
def line0 : Value := lineV 0 noPm noRu (.slice none 0 0) noPr
namespace Own
def isBoxR (L : Nat) (cs : Array Value) (t : TypeId) : Value → World → Prop := fun v w => ∃ g : Nat, v = .pointer (some ⟨g, 0, none⟩) ∧ L ≤ g ∧ w.heap[g]? = some (.cells cs t (0, 0))
theorem isBoxR_up (L : Nat) (cs : Array Value) (t : TypeId) : GoesUp (isBoxR L cs t) := fun _ _ _ hg ⟨g, h1, h2, h3⟩ => ⟨g, h1, h2, blk_kept2 h3 hg⟩
theorem boxRA {W w : World} (hC : Ext W w) (cs : Array Value) (t : TypeId) : Ext W (w.alloc (.cells cs t)) ∧ Grows w (w.alloc (.cells cs t)) ∧ relR (rA (isBoxR W.heap.size cs t)) w (.pointer (some ⟨w.heap.size, 0, none⟩)) (w.alloc (.cells cs t)) :=
  ⟨hC.grown (bgrow w _), bgrow w _, ⟨_, rfl, Below.size hC, heap_alloc_new _ _⟩, fun h => by cases h⟩
end Own
theorem bcell2r {w : World} {b : Nat} {u v : Value} {t : TypeId} (h : w.heap[b]? = some (.cells #[u, v] t (0, 0))) : w.cell? ⟨b, 0, none⟩ = some u ∧ w.cell? ⟨b, 1, none⟩ = some v :=
  ⟨by simp [World.cell?, h], by simp [World.cell?, h]⟩
theorem Own.callV5 {P : Program} {f : FuncId} {args : Array Value} {W w : World} {x : Value} (hC : Ext W w) (h : Calls P f args w fun e w' => e = .returned x ∧ w' = w) :
    Calls P f args w fun e w'' => ∃ u, e = .returned u ∧ Ext W w'' ∧ Grows w w'' ∧ Own.relR (Own.rA (Own.isVal x)) w u w'' :=
  h.mono fun _ _ ⟨he, hw⟩ => ⟨x, he, by rw [hw]; exact hC, by rw [hw]; exact Below.refl _ _, rfl, fun h => by cases h⟩
theorem vn_le12 {s : ByteArray} (h : vn s = true) : s.size ≤ 12 := by
  unfold vn at h
  rw [Bool.and_eq_true, decide_eq_true_eq] at h
  exact h.1.2
theorem atW_size {ws : List ByteArray} {n : Nat} (h : ∀ x ∈ ws, x.size ≤ n) (i : Nat) : (atW ws i).size ≤ n := by
  unfold atW
  rw [List.getD_eq_getElem?_getD]
  cases hx : ws[i]? with
  | none => show (⟨#[]⟩ : ByteArray).size ≤ _; exact Nat.zero_le _
  | some x => exact h x (List.mem_of_getElem? hx)
theorem OwnWs.go {w w' : World} {B : Nat} {v : Value} {ws : List ByteArray} (h : OwnWs w B v ws) (hb : Below w.heap.size w w') : OwnWs w' B v ws := owns_kept h fun g e => hb.block g (owns_blk h g e).2
theorem bcell16 {w : World} {b : Nat} {u0 u1 u2 u3 u4 u5 u6 u7 u8 u9 ua ub uc ud ue uf : Value} {t : TypeId} (h : w.heap[b]? = some (.cells #[u0, u1, u2, u3, u4, u5, u6, u7, u8, u9, ua, ub, uc, ud, ue, uf] t (0, 0))) :
    w.cell? ⟨b, 0, none⟩ = some u0 ∧ w.cell? ⟨b, 1, none⟩ = some u1 ∧ w.cell? ⟨b, 2, none⟩ = some u2 ∧ w.cell? ⟨b, 3, none⟩ = some u3 ∧ w.cell? ⟨b, 4, none⟩ = some u4 ∧ w.cell? ⟨b, 5, none⟩ = some u5 ∧ w.cell? ⟨b, 6, none⟩ = some u6 ∧ w.cell? ⟨b, 7, none⟩ = some u7 ∧
    w.cell? ⟨b, 8, none⟩ = some u8 ∧ w.cell? ⟨b, 9, none⟩ = some u9 ∧ w.cell? ⟨b, 10, none⟩ = some ua ∧ w.cell? ⟨b, 11, none⟩ = some ub ∧ w.cell? ⟨b, 12, none⟩ = some uc ∧ w.cell? ⟨b, 13, none⟩ = some ud ∧ w.cell? ⟨b, 14, none⟩ = some ue ∧ w.cell? ⟨b, 15, none⟩ = some uf := by
  refine ⟨?_, ?_, ?_, ?_, ?_, ?_, ?_, ?_, ?_, ?_, ?_, ?_, ?_, ?_, ?_, ?_⟩ <;> simp [World.cell?, h]
theorem there_of5 {w : World} {b : Nat} {o : Array Value} {t : TypeId} {n : Nat} (h : w.heap[b]? = some (.cells o t (0, 0))) (hs : o.size = n) : w.there b 0 n := fun j hj => by
  refine ⟨?_, ?_⟩
  · simp [World.cell?, h]; omega
  · simp [World.frozen?, h]
theorem numW_bd (s : ByteArray) : -1 ≤ numW s ∧ numW s ≤ 9 := by
  unfold numW
  split
  · split <;> omega
  · omega
end Go.Proofs.YtfcoplplkbeljaaGreatDoor
