/- What a promotion does; the program's map of promoted ranks. slices.Clone at premises, at promotions, at literals: a row of the call's own. Rows of rules: made by make, filled rule by rule; what a promotion gives. rulebase.Promote under way. -/
import Derived.Test.YtiffcdhiejmbdaaGreatDoorZ1Cons
import Derived.Test.YtiffcdhiejmbdaaGreatDoorZ1K
import Derived.LoopTactic
import Derived.Test.YtiffcdhiejmbdaaGreatDoorZ1K6d
import Derived.Laws.MakeOwn

namespace Go.Proofs.YtiffcdhiejmbdaaGreatDoor
set_option linter.unusedVariables false
set_option linter.unusedSimpArgs false
open Go Go.RowKit Go.Sort Go.Maps

/-- The rank that the promotions give a name: that of the last one that applies. -/
def lastRank (acc : List Lt) (nm : ByteArray) (qs : List Pr) : Option Int := qs.foldl (fun o q => if decide (q.lit ∈ acc) && decide (q.rule = nm) then some q.rank else o) none
theorem lastRank_snoc (acc : List Lt) (nm : ByteArray) (qs : List Pr) (q : Pr) : lastRank acc nm (qs ++ [q]) = if decide (q.lit ∈ acc) && decide (q.rule = nm) then some q.rank else lastRank acc nm qs := by simp [lastRank]
/-- The map of ranks behind these promotions. -/
def ranksD (acc : List Lt) (qs : List Pr) : DataW Unit := qs.foldl (fun D q => if decide (q.lit ∈ acc) then D.put (.string q.rule.data.toList) (.lit (.int .i64 q.rank)) else D) (.map [])
theorem ranksD_snoc (acc : List Lt) (qs : List Pr) (q : Pr) : ranksD acc (qs ++ [q]) = if decide (q.lit ∈ acc) then (ranksD acc qs).put (.string q.rule.data.toList) (.lit (.int .i64 q.rank)) else ranksD acc qs := by simp [ranksD]
theorem ranksD_isMap (acc : List Lt) (qs : List Pr) : IsMap (ranksD acc qs) := by
  have : ∀ (l : List Pr) (D : DataW Unit), IsMap D → IsMap (l.foldl (fun D q => if decide (q.lit ∈ acc) then D.put (.string q.rule.data.toList) (.lit (.int .i64 q.rank)) else D) D) := by
    intro l
    induction l with
    | nil => exact fun D h => h
    | cons x r ih =>
      intro D h
      rw [List.foldl_cons]
      refine ih _ ?_
      split
      · exact h.put _ _
      · exact h
  exact this qs _ isMap_empty
theorem bytes_inj5 {a b : ByteArray} (h : a.data.toList = b.data.toList) : a = b := by
  apply ByteArray.ext
  exact Array.toList_inj.1 h
theorem ranksD_at (acc : List Lt) (nm : ByteArray) (z : DataW Unit) (n : Nat) : ∀ qs : List Pr, qs.length = n → (ranksD acc qs).atKey (.string nm.data.toList) z = match lastRank acc nm qs with | some r => .lit (.int .i64 r) | none => z := by
  induction n with
  | zero =>
    intro l hl
    obtain rfl := List.eq_nil_of_length_eq_zero hl
    rfl
  | succ n ih =>
    intro l hl
    obtain ⟨r, x, rfl⟩ : ∃ r x, l = r ++ [x] := by
      rcases List.eq_nil_or_concat l with h | ⟨r, x, h⟩
      · subst h; simp at hl
      · exact ⟨r, x, by simpa using h⟩
    have hr : r.length = n := by simpa using hl
    rw [ranksD_snoc, lastRank_snoc]
    by_cases hm : x.lit ∈ acc
    · rw [decide_eq_true hm, if_pos rfl, Bool.true_and]
      by_cases e : x.rule = nm
      · rw [decide_eq_true e, if_pos rfl, ← e, atKey_put_same (ranksD_isMap acc r) (by trivial)]
      · rw [decide_eq_false e, if_neg (by decide), atKey_put_other (fun h => e (bytes_inj5 (by simpa using h.symm))), ih r hr]
    · rw [decide_eq_false hm, if_neg (by decide), Bool.false_and, if_neg (by decide), ih r hr]

theorem strKeyed5 : Keyed Tryz.prog 9 := Keyed.of_law (Go.WideMaps.string_law Tryz.underlying9)
theorem key_str5 (s : ByteArray) (h : s.size ≤ maxLen) : keyOf Tryz.prog 9 (.string s) = some (.string s.data.toList) := Go.WideMaps.keyOf_string_mk Tryz.underlying9 h
/-- The map holds these promotions' ranks. -/
def RanksAt (w : World) (b : Nat) (acc : List Lt) (qs : List Pr) : Prop := ∃ n, n ≤ qs.length ∧ w.ownsMap Tryz.prog 9 (plainElem Tryz.prog 3) b n (ranksD acc qs)
theorem RanksAt.kept {w w' : World} {b : Nat} {acc : List Lt} {qs : List Pr} {row : Option Nat} (h : RanksAt w b acc qs) (hg : w.grownBy w' row) (hr : some b ≠ row) : RanksAt w' b acc qs := by
  obtain ⟨n, hn, ho⟩ := h
  exact ⟨n, hn, ho.kept hg hr⟩
theorem RanksAt.lt {w : World} {b : Nat} {acc : List Lt} {qs : List Pr} (h : RanksAt w b acc qs) : b < w.heap.size := by
  obtain ⟨n, hn, ho⟩ := h
  exact ho.lt
/-- A look-up that also tells whether there is a rank. -/
theorem RanksAt.look {w : World} {b : Nat} {acc : List Lt} {qs : List Pr} (h : RanksAt w b acc qs) (nm : ByteArray) (hn : nm.size ≤ maxLen) :
    ∃ z : Int, (Instr.lookup 112 (.map (some b)) (.string nm) true).run Tryz.prog w = .ok (.tuple #[.int .i64 z, .bool (lastRank acc nm qs).isSome]) w ∧ ∀ r, lastRank acc nm qs = some r → z = r := by
  obtain ⟨n, -, es, clock, hb, F, -, hD⟩ := h
  have hz : (zeroValue 3).run Tryz.prog w = .ok (.int .i64 0) w := by kernel_rfl
  have hat : ∀ z : DataW Unit, (ranksD acc qs).atKey (.string nm.data.toList) z = match lastRank acc nm qs with | some r => .lit (.int .i64 r) | none => z := fun z => ranksD_at acc nm z _ qs rfl
  rcases Maps.fit_look true strKeyed5 Tryz.underlying112 hz hb F (key_str5 nm hn) with ⟨hrun, -, h0⟩ | ⟨e0, y, -, -, hrun, hRv, h0, -⟩
  · rw [← hD] at h0
    have hnone : lastRank acc nm qs = none := by
      cases hl : lastRank acc nm qs with
      | none => rfl
      | some r =>
        have h1 := h0 (.map [])
        rw [hat, hl] at h1
        cases h1
    exact ⟨0, by rw [hrun, hnone]; rfl, fun r hr => by rw [hnone] at hr; cases hr⟩
  · rw [← hD] at h0
    obtain ⟨c, hc, hy, -⟩ := plainElem_int_inv Tryz.underlying3 hRv
    have hsome : lastRank acc nm qs = some c := by
      cases hl : lastRank acc nm qs with
      | none =>
        have h1 := h0 (.map [])
        rw [hat, hl, hy] at h1
        cases h1
      | some r =>
        have h1 := h0 (.map [])
        rw [hat, hl, hy] at h1
        simp only [DataW.lit.injEq, Lit.int.injEq, true_and] at h1
        rw [h1]
    exact ⟨c, by rw [hrun, hsome, hc]; rfl, fun r hr => by rw [hsome] at hr; injection hr⟩

set_option maxRecDepth 100000 in
set_option maxHeartbeats 4000000 in
theorem promRanks_any (qs : List Pr) (xs : List Lt) (v u : Value) (w : World) (hv : PrsAt w v qs) (hu : BodyAt w u xs) (hs : Short xs) (hqs : ∀ q ∈ qs, PrOk q) (hl1 : xs.length ≤ 1000000) (hl2 : qs.length ≤ 1000000) :
    Calls Tryz.prog 85 #[v, u] w fun e w' => ∃ b, e = .returned (.map (some b)) ∧ w.heap.size ≤ b ∧ RanksAt w' b xs qs ∧ Below w.heap.size w w' := by
  obtain ⟨a, cap, rfl, hlen, hcap, hrow⟩ := hu.form
  obtain ⟨a2, cap2, rfl, hlen2, hcap2, hrow2⟩ := RowIn.form hv
  have HR := hidIt hrow
  have HR2 := hidIt hrow2
  have HSH := hidIt hs
  have HQS := hidIt hqs
  clear hrow hv hrow2 hu hs hqs
  have hmm := @run_makeMap Tryz.prog
  go_enter Tryz.func85, Tryz.ntmps85
  go_wp2_with fail
  go_loopw [14] (fun i wr => ∃ k n : Nat, k ≤ xs.length ∧ n ≤ k ∧ i = .int .i64 k ∧ Hid (wr.ownsMap Tryz.prog 28 (plainElem Tryz.prog 4) w.heap.size n (seenD (xs.take k))) ∧ Hid (Below w.heap.size w wr)) (fun i _ => xs.length - (intOf i).toNat)
  case atStart => exact ⟨0, 0, Nat.zero_le _, Nat.le_refl _, rfl, World.ownsMap_made w _ _ _, (Below.refl _ _).alloc (Nat.le_refl _) _⟩
  case round =>
    obtain ⟨k, n, hk, hnk, rfl, hown, hbel⟩ := hrel
    by_cases hlt : k < xs.length
    · obtain ⟨b, off, rfl, hbl, c0', c1'⟩ := HR.out k hlt
      have c0 := (hbel.out.cell (p := ⟨b, off + k * 2, none⟩) hbl).trans c0'
      have c1 := (hbel.out.cell (p := ⟨b, off + k * 2 + 1, none⟩) hbl).trans c1'
      have hbr := Nat.lt_of_lt_of_le hbl hbel.out.size
      have hltI : (k : Int) < (xs.length : Int) := by omega
      have hk0 : (0 : Int) ≤ (k : Int) := by omega
      have HTS : Hid (xs.take (k + 1) = xs.take k ++ [xs[k]]) := List.take_succ_eq_append_getElem hlt
      have hsx := HSH.out _ (List.getElem_mem hlt)
      clear c0' c1' hbl
      generalize xs[k] = x at *
      have hown2 := hown.out.alloc (.cells #[.bool x.neg, .string x.name] 28)
      have hb2 := hbel.out.trans (Below.mono (bgrow wr (.cells #[.bool x.neg, .string x.name] 28)) hbel.out.size)
      obtain ⟨w3, hrun3, hown3, hg3⟩ := hown2.update litKeyed Tryz.underlying129 (by unfold maxLen; omega) (key_lit x hsx) (plainElem_bool Tryz.underlying4 true)
      have HO := hidIt hown3
      have HB3 : Hid (Below w.heap.size w w3) := below_app5 hb2 hg3 (fun g e => by injection e with e; omega) hb2.size
      clear hown2 hb2 hown3 hg3 hown hbel
      go_wp2_with fail
      go_roundw
      case rel => exact ⟨k + 1, n + 1, by omega, by omega, by go_num, by show World.ownsMap _ _ _ _ _ _ _; rw [HTS.out, seenD_snoc]; exact HO.out, HB3.out⟩
      case measure => simp [intOf]; omega
    · obtain rfl : k = xs.length := by omega
      have hltI : ¬ (xs.length : Int) < (xs.length : Int) := by omega
      have HOW := hidIt hown.out
      rw [List.take_length] at HOW
      have HBR := hidIt hbel.out
      have hwl : w.heap.size < wr.heap.size := hown.out.lt
      clear hown hbel hlt
      go_wp2_with fail
      obtain ⟨b2, hb2⟩ : ∃ b2, b2 = wr.heap.size := ⟨_, rfl⟩
      have HM0 := hidIt (World.ownsMap_made wr Tryz.prog 9 (plainElem (H := Unit) Tryz.prog 3))
      have HS0 := hidIt (HOW.out.alloc (.map #[] 0))
      have HB0 := hidIt (HBR.out.trans (Below.mono (bgrow wr (.map #[] 0)) HBR.out.size))
      rw [← hb2] at HM0 hwl ⊢
      have hb2' : w.heap.size < b2 := hwl
      clear hb2 hltI HOW HBR hwl
      go_loopw [24] (fun i wx => ∃ k : Nat, k ≤ qs.length ∧ i = .int .i64 k ∧ Hid (wx.ownsMap Tryz.prog 28 (plainElem Tryz.prog 4) w.heap.size n (seenD xs)) ∧ Hid (RanksAt wx b2 xs (qs.take k)) ∧ Hid (Below w.heap.size w wx)) (fun i _ => qs.length - (intOf i).toNat)
      case atStart => exact ⟨0, Nat.zero_le _, rfl, HS0.out, ⟨0, Nat.le_refl _, HM0.out⟩, HB0.out⟩
      case round =>
        clear HM0 HS0 HB0 hk
        obtain ⟨k, hk, rfl, hown, hrk, hbel⟩ := hrel
        by_cases hlt : k < qs.length
        · obtain ⟨b, off, rfl, hbl, c0', c1', c2', c3'⟩ := HR2.out k hlt
          have c0 := (hbel.out.cell (p := ⟨b, off + k * 4, none⟩) hbl).trans c0'
          have c1 := (hbel.out.cell (p := ⟨b, off + k * 4 + 1, none⟩) hbl).trans c1'
          have c2 := (hbel.out.cell (p := ⟨b, off + k * 4 + 2, none⟩) hbl).trans c2'
          have c3 := (hbel.out.cell (p := ⟨b, off + k * 4 + 3, none⟩) hbl).trans c3'
          have hbr := Nat.lt_of_lt_of_le hbl hbel.out.size
          have hltI : (k : Int) < (qs.length : Int) := by omega
          have hk0 : (0 : Int) ≤ (k : Int) := by omega
          have HTS : Hid (qs.take (k + 1) = qs.take k ++ [qs[k]]) := List.take_succ_eq_append_getElem hlt
          obtain ⟨hs1, hs2, hs3⟩ := HQS.out _ (List.getElem_mem hlt)
          clear c0' c1' c2' c3' hbl
          generalize qs[k] = q at *
          obtain ⟨rl, rk, ⟨qg, qn⟩⟩ := q
          simp only at c0 c1 c2 c3 hs1 hs2 hs3
          have hgr := bgrow wr (.cells #[.string rl, .int .i64 rk, .bool qg, .string qn] 80)
          have hown2 := hown.out.alloc (.cells #[.string rl, .int .i64 rk, .bool qg, .string qn] 80)
          have hrk2 := hrk.out.kept (only_of_below hgr none) (by simp)
          have hb2 := hbel.out.trans (Below.mono hgr hbel.out.size)
          obtain ⟨c, hrun, hat⟩ := lookup_bool hown2 ⟨qg, qn⟩ hs3
          rw [seenD_at ⟨qg, qn⟩ hs3 _ xs rfl HSH.out] at hat
          have hc : c = decide ((⟨qg, qn⟩ : Lt) ∈ xs) := by simpa using hat.symm
          have HC := hidIt hc
          have HOWN2 := hidIt hown2
          have HB2 := hidIt hb2
          have HRK2 := hidIt hrk2
          have hwi : I64 rk := hs2
          clear hat hown2 hrk2 hb2 hgr hown hrk hbel hc
          have hrun' : (Instr.lookup 129 (.map (some w.heap.size)) (.agg #[.bool qg, .string qn]) false).run Tryz.prog (wr.alloc (.cells #[.string rl, .int .i64 rk, .bool qg, .string qn] 80)) = .ok (.bool c) (wr.alloc (.cells #[.string rl, .int .i64 rk, .bool qg, .string qn] 80)) := hrun
          clear hrun
          cases c
          · go_wp2_with fail
            go_roundw
            case rel => exact ⟨k + 1, by omega, by go_num, HOWN2.out, (by
              show RanksAt _ _ _ _
              obtain ⟨m, hm, ho⟩ := HRK2.out
              refine ⟨m, by rw [HTS.out, List.length_append]; omega, ?_⟩
              rw [HTS.out, ranksD_snoc, ← HC.out]
              exact ho), HB2.out⟩
            case measure => simp [intOf]; omega
          · obtain ⟨m, hm, ho⟩ := HRK2.out
            obtain ⟨w3, hrun3, hown3, hg3⟩ := ho.update strKeyed5 Tryz.underlying112 (by rw [List.length_take] at hm; unfold maxLen; omega) (key_str5 rl hs1) (plainElem_int Tryz.underlying3 (a := rk) (by unfold I64 at hwi; simp only [Lit.wf, Bool.and_eq_true, decide_eq_true_eq]; exact hwi))
            have HO := hidIt hown3
            have HS3 := hidIt (HOWN2.out.kept hg3 (by intro e; injection e with e; omega))
            have HB3 : Hid (Below w.heap.size w w3) := below_app5 HB2.out hg3 (fun g e => by injection e with e; omega) HB2.out.size
            clear ho hown3 hg3
            go_wp2_with fail
            go_roundw
            case rel => exact ⟨k + 1, by omega, by go_num, HS3.out, (by
              show RanksAt _ _ _ _
              refine ⟨m + 1, by rw [HTS.out, List.length_append, List.length_singleton]; omega, ?_⟩
              rw [HTS.out, ranksD_snoc, ← HC.out]
              exact HO.out), HB3.out⟩
            case measure => simp [intOf]; omega
        · obtain rfl : k = qs.length := by omega
          have hltI : ¬ (qs.length : Int) < (qs.length : Int) := by omega
          have HRK := hidIt hrk.out
          rw [List.take_length] at HRK
          clear hrk hown
          go_wp2_with fail
          go_ret
          exact ⟨b2, rfl, by omega, HRK.out, hbel.out⟩
end Go.Proofs.YtiffcdhiejmbdaaGreatDoor

namespace Go.Proofs.YtiffcdhiejmbdaaGreatDoor
set_option linter.unusedVariables false
set_option linter.unusedSimpArgs false
open Go Go.RowKit
theorem add_plain5 (b o j : Nat) : (⟨b, o, none⟩ : Addr).add j = ⟨b, o + j, none⟩ := by unfold Addr.add; split <;> simp_all
theorem flat_length {α : Type} (enc : α → List Value) (k : Nat) (hk : ∀ x, (enc x).length = k) : ∀ xs : List α, (xs.flatMap enc).length = xs.length * k
  | [] => by simp
  | x :: r => by rw [List.flatMap_cons, List.length_append, hk, flat_length enc k hk r, List.length_cons, Nat.add_mul]; omega

set_option maxRecDepth 100000 in
set_option maxHeartbeats 2000000 in
theorem clonePm_any (ps : List Pm) (v : Value) (w : World) (hv : PmsAt w v ps) (hn : ps.length ≤ 1000000) :
    Calls Tryz.prog 87 #[v] w fun e w' => ∃ v', e = .returned v' ∧ OwnPm w' w.heap.size v' ps ∧ Below w.heap.size w w' := by
  obtain ⟨a, c, rfl, hl, hc, hrow⟩ := RowIn.form hv
  have q22 : ∀ (w : World) (a : Option Addr) (n c n' c' : Nat), (binOp .eql 22 (.slice a n c) (.slice none n' c')).run Tryz.prog w = .ok (.bool a.isNone) w := fun w a n c n' c' => Lib.run_eql_slice_nil w _ _ a n c n' c' Tryz.underlying22
  cases a with
  | none =>
    have h0 : ps.length = 0 := by
      rcases Nat.eq_zero_or_pos ps.length with h | h
      · exact h
      · obtain ⟨b, off, e, -⟩ := hrow 0 h
        cases e
    obtain rfl := List.eq_nil_of_length_eq_zero h0
    clear hrow hv
    go_enter Tryz.func87, Tryz.ntmps87
    go_wp2
    go_ret
    exact ⟨_, rfl, World.ownsRow_nil _ _ _ _, Below.refl _ _⟩
  | some x =>
    have hgr := bgrow w (.cells #[] 78)
    have hnews : ∀ j u, (ps.flatMap encPm)[j]? = some u → (w.alloc (.cells #[] 78)).cell? (x.add j) = some u := fun j u hj => by
      have hjl : j < ps.length * 5 := by
        have := (List.getElem?_eq_some_iff.1 hj).1
        rw [flat_length encPm 5 (fun _ => rfl) ps] at this
        exact this
      have hi : j / 5 < ps.length := by omega
      obtain ⟨b, off, ex, hbl, c0, c1, c2, c3, c4⟩ := hrow (j / 5) hi
      injection ex with ex
      have he : j = j / 5 * 5 + j % 5 := by omega
      rw [he, flat_get encPm 5 (fun _ => rfl) ps (j / 5) (j % 5) hi (Nat.mod_lt _ (by decide))] at hj
      have hx : x.add j = ⟨b, off + j, none⟩ := by rw [ex]; exact add_plain5 _ _ _
      rw [hx]
      refine (Below.cell hgr (p := ⟨b, off + j, none⟩) hbl).trans ?_
      have hr : j % 5 < 5 := Nat.mod_lt _ (by decide)
      generalize j % 5 = r at he hj hr
      generalize j / 5 = i at *
      subst he
      rw [← Nat.add_assoc]
      have hr' : r = 0 ∨ r = 1 ∨ r = 2 ∨ r = 3 ∨ r = 4 := by omega
      rcases hr' with rfl | rfl | rfl | rfl | rfl
      all_goals (simp [encPm] at hj; subst hj; assumption)
    obtain ⟨v', w', hr, ho, hb⟩ := run_append0 elemPm 22 w.heap.size w.heap.size (heap_alloc_new w (.cells #[] 78)) (Nat.le_refl _) x ps.length c (ps.flatMap encPm) (flat_length encPm 5 (fun _ => rfl) ps) hnews (one_pm ps) hn
    have HO := hidIt ho
    have HB := hidIt (hgr.trans (Below.mono hb hgr.size))
    clear hnews hrow hv hgr ho hb
    go_enter Tryz.func87, Tryz.ntmps87
    go_wp2_with (at_builtin; refine Hid.out ?_)
    refine hidIt ?_
    refine wpList_run rfl _ _ rfl rfl rfl hr ?_
    clear hr
    go_wp2_with fail
    go_ret
    exact ⟨v', rfl, HO.out, HB.out⟩

set_option maxRecDepth 100000 in
set_option maxHeartbeats 2000000 in
theorem clonePr_any (ps : List Pr) (v : Value) (w : World) (hv : PrsAt w v ps) (hn : ps.length ≤ 1000000) :
    Calls Tryz.prog 88 #[v] w fun e w' => ∃ v', e = .returned v' ∧ OwnPr w' w.heap.size v' ps ∧ Below w.heap.size w w' := by
  obtain ⟨a, c, rfl, hl, hc, hrow⟩ := RowIn.form hv
  have q22 : ∀ (w : World) (a : Option Addr) (n c n' c' : Nat), (binOp .eql 24 (.slice a n c) (.slice none n' c')).run Tryz.prog w = .ok (.bool a.isNone) w := fun w a n c n' c' => Lib.run_eql_slice_nil w _ _ a n c n' c' Tryz.underlying24
  cases a with
  | none =>
    have h0 : ps.length = 0 := by
      rcases Nat.eq_zero_or_pos ps.length with h | h
      · exact h
      · obtain ⟨b, off, e, -⟩ := hrow 0 h
        cases e
    obtain rfl := List.eq_nil_of_length_eq_zero h0
    clear hrow hv
    go_enter Tryz.func88, Tryz.ntmps88
    go_wp2
    go_ret
    exact ⟨_, rfl, World.ownsRow_nil _ _ _ _, Below.refl _ _⟩
  | some x =>
    have hgr := bgrow w (.cells #[] 80)
    have hnews : ∀ j u, (ps.flatMap encPr)[j]? = some u → (w.alloc (.cells #[] 80)).cell? (x.add j) = some u := fun j u hj => by
      have hjl : j < ps.length * 4 := by
        have := (List.getElem?_eq_some_iff.1 hj).1
        rw [flat_length encPr 4 (fun _ => rfl) ps] at this
        exact this
      have hi : j / 4 < ps.length := by omega
      obtain ⟨b, off, ex, hbl, c0, c1, c2, c3⟩ := hrow (j / 4) hi
      injection ex with ex
      have he : j = j / 4 * 4 + j % 4 := by omega
      rw [he, flat_get encPr 4 (fun _ => rfl) ps (j / 4) (j % 4) hi (Nat.mod_lt _ (by decide))] at hj
      have hx : x.add j = ⟨b, off + j, none⟩ := by rw [ex]; exact add_plain5 _ _ _
      rw [hx]
      refine (Below.cell hgr (p := ⟨b, off + j, none⟩) hbl).trans ?_
      have hr : j % 4 < 4 := Nat.mod_lt _ (by decide)
      generalize j % 4 = r at he hj hr
      generalize j / 4 = i at *
      subst he
      rw [← Nat.add_assoc]
      have hr' : r = 0 ∨ r = 1 ∨ r = 2 ∨ r = 3 := by omega
      rcases hr' with rfl | rfl | rfl | rfl
      all_goals (simp [encPr] at hj; subst hj; assumption)
    obtain ⟨v', w', hr, ho, hb⟩ := run_append0 elemPr 24 w.heap.size w.heap.size (heap_alloc_new w (.cells #[] 80)) (Nat.le_refl _) x ps.length c (ps.flatMap encPr) (flat_length encPr 4 (fun _ => rfl) ps) hnews (one_pr ps) hn
    have HO := hidIt ho
    have HB := hidIt (hgr.trans (Below.mono hb hgr.size))
    clear hnews hrow hv hgr ho hb
    go_enter Tryz.func88, Tryz.ntmps88
    go_wp2_with (at_builtin; refine Hid.out ?_)
    refine hidIt ?_
    refine wpList_run rfl _ _ rfl rfl rfl hr ?_
    clear hr
    go_wp2_with fail
    go_ret
    exact ⟨v', rfl, HO.out, HB.out⟩

set_option maxRecDepth 100000 in
set_option maxHeartbeats 2000000 in
theorem cloneLt_any (ps : List Lt) (v : Value) (w : World) (hv : BodyAt w v ps) (hn : ps.length ≤ 1000000) :
    Calls Tryz.prog 86 #[v] w fun e w' => ∃ v', e = .returned v' ∧ OwnL w' w.heap.size v' ps ∧ Below w.heap.size w w' := by
  obtain ⟨a, c, rfl, hl, hc, hrow⟩ := BodyAt.form hv
  have q22 : ∀ (w : World) (a : Option Addr) (n c n' c' : Nat), (binOp .eql 56 (.slice a n c) (.slice none n' c')).run Tryz.prog w = .ok (.bool a.isNone) w := fun w a n c n' c' => Lib.run_eql_slice_nil w _ _ a n c n' c' Tryz.underlying56
  cases a with
  | none =>
    have h0 : ps.length = 0 := by
      rcases Nat.eq_zero_or_pos ps.length with h | h
      · exact h
      · obtain ⟨b, off, e, -⟩ := hrow 0 h
        cases e
    obtain rfl := List.eq_nil_of_length_eq_zero h0
    clear hrow hv
    go_enter Tryz.func86, Tryz.ntmps86
    go_wp2
    go_ret
    exact ⟨_, rfl, (by unfold OwnL; rw [flatL_nil]; exact World.ownsRow_nil _ _ _ _), Below.refl _ _⟩
  | some x =>
    have hgr := bgrow w (.cells #[] 28)
    have hnews : ∀ j u, (flatL ps)[j]? = some u → (w.alloc (.cells #[] 28)).cell? (x.add j) = some u := fun j u hj => by
      have hjl : j < ps.length * 2 := by
        have := (List.getElem?_eq_some_iff.1 hj).1
        rw [flatL_len ps] at this
        exact this
      have hi : j / 2 < ps.length := by omega
      obtain ⟨b, off, ex, hbl, c0, c1⟩ := hrow (j / 2) hi
      injection ex with ex
      have he : j = j / 2 * 2 + j % 2 := by omega
      rw [he, flatL_eq, flat_get encL 2 encL_len ps (j / 2) (j % 2) hi (Nat.mod_lt _ (by decide))] at hj
      have hx : x.add j = ⟨b, off + j, none⟩ := by rw [ex]; exact add_plain5 _ _ _
      rw [hx]
      refine (Below.cell hgr (p := ⟨b, off + j, none⟩) hbl).trans ?_
      have hr : j % 2 < 2 := Nat.mod_lt _ (by decide)
      generalize j % 2 = r at he hj hr
      generalize j / 2 = i at *
      subst he
      rw [← Nat.add_assoc]
      have hr' : r = 0 ∨ r = 1 := by omega
      rcases hr' with rfl | rfl
      all_goals (simp [encL] at hj; subst hj; assumption)
    obtain ⟨v', w', hr, ho, hb⟩ := run_append0 elemLit 56 w.heap.size w.heap.size (heap_alloc_new w (.cells #[] 28)) (Nat.le_refl _) x ps.length c (flatL ps) (flatL_len ps) hnews (flat_one5 ps) hn
    have HO := hidIt ho
    have HB := hidIt (hgr.trans (Below.mono hb hgr.size))
    clear hnews hrow hv hgr ho hb
    go_enter Tryz.func86, Tryz.ntmps86
    go_wp2_with (at_builtin; refine Hid.out ?_)
    refine hidIt ?_
    refine wpList_run rfl _ _ rfl rfl rfl hr ?_
    clear hr
    go_wp2_with fail
    go_ret
    exact ⟨v', rfl, HO.out, HB.out⟩
end Go.Proofs.YtiffcdhiejmbdaaGreatDoor

namespace Go.Proofs.YtiffcdhiejmbdaaGreatDoor
set_option linter.unusedVariables false
set_option linter.unusedSimpArgs false
open Go Go.RowKit

def promR (qs : List Pr) (acc : List Lt) (r : Ru) : Ru := if r.strict = true then r else match lastRank acc r.name qs with | some z => ⟨r.name, r.strict, z, r.body, r.head⟩ | none => r
/-- The rule base in which the promotions have been done. -/
def promB (b : Bs) (acc : List Lt) : Bs := ⟨b.prems, b.rules.map (promR b.proms acc), b.proms⟩

def encRv (x : Ru × Value) : List Value := encRu x.1 x.2
def zeroRu : Ru := ⟨⟨#[]⟩, false, 0, [], ⟨false, ⟨#[]⟩⟩⟩
theorem madeRu (n : Nat) : (madeCells #[.string ⟨#[]⟩, .bool false, .int .i64 0, .slice none 0 0, .bool false, .string ⟨#[]⟩] (n * 6)).toList = (List.replicate n (zeroRu, Value.slice none 0 0)).flatMap encRv := by
  apply List.ext_getElem?
  intro j
  by_cases hj : j < n * 6
  · have he : j = j / 6 * 6 + j % 6 := by omega
    have hi : j / 6 < (List.replicate n (zeroRu, Value.slice none 0 0)).length := by rw [List.length_replicate]; omega
    have hr : (List.flatMap encRv (List.replicate n (zeroRu, Value.slice none 0 0)))[j]? = (encRv (zeroRu, Value.slice none 0 0))[j % 6]? := by
      conv => lhs; rw [he]
      rw [flat_get encRv 6 (fun _ => rfl) _ (j / 6) (j % 6) hi (Nat.mod_lt _ (by decide)), List.getElem_replicate]
    rw [hr]
    have hl : (madeCells #[.string ⟨#[]⟩, .bool false, .int .i64 0, .slice none 0 0, .bool false, .string ⟨#[]⟩] (n * 6)).toList[j]? = some ((#[Value.string ⟨#[]⟩, .bool false, .int .i64 0, .slice none 0 0, .bool false, .string ⟨#[]⟩] : Array Value)[j % 6]!) := by
      rw [Array.getElem?_toList]
      simp [madeCells, hj]
    rw [hl]
    have hm : j % 6 < 6 := Nat.mod_lt _ (by decide)
    generalize j % 6 = m at hm
    have hm' : m = 0 ∨ m = 1 ∨ m = 2 ∨ m = 3 ∨ m = 4 ∨ m = 5 := by omega
    rcases hm' with rfl | rfl | rfl | rfl | rfl | rfl <;> rfl
  · rw [List.getElem?_eq_none (by rw [Array.length_toList, size_madeCells]; omega), List.getElem?_eq_none (by rw [flat_length encRv 6 (fun _ => rfl), List.length_replicate]; omega)]
theorem make_ruls (n : Nat) (hn : n ≤ 1000000) (w : World) : (Instr.makeSlice 23 (.int .i64 (n : Int)) (.int .i64 (n : Int))).run Tryz.prog w = .ok (.slice (some ⟨w.heap.size, 0, none⟩) n n) (w.alloc (.cells (madeCells #[.string ⟨#[]⟩, .bool false, .int .i64 0, .slice none 0 0, .bool false, .string ⟨#[]⟩] (n * 6)) 72)) := by
  obtain ⟨i0, hi, hz0, hz1, hz2⟩ := info_parts infoRu
  have hr := run_make (P := Tryz.prog) w 23 72 i0 _ Tryz.underlying23 hi hz0 .i64 .i64 (n : Int) (n : Int) (by omega) (by omega) (by rw [hz2]; omega) (by omega)
  rw [hz1] at hr
  simp only [Int.toNat_natCast] at hr
  exact hr
theorem ruls_made (w : World) (n : Nat) (hn : n ≤ 1000000) : (w.alloc (.cells (madeCells #[.string ⟨#[]⟩, .bool false, .int .i64 0, .slice none 0 0, .bool false, .string ⟨#[]⟩] (n * 6)) 72)).ownsRow w.heap.size 72 6 (.slice (some ⟨w.heap.size, 0, none⟩) n n) n ((List.replicate n (zeroRu, Value.slice none 0 0)).flatMap encRv) :=
  ⟨by rw [flat_length encRv 6 (fun _ => rfl), List.length_replicate], .inr ⟨w.heap.size, n, _, rfl, Nat.le_refl _, heap_alloc_new w _, Nat.le_refl _, by unfold maxLen; omega, size_madeCells _ _, by rw [madeRu, List.take_of_length_le (by rw [flat_length encRv 6 (fun _ => rfl), List.length_replicate]; exact Nat.le_refl _)]⟩⟩
theorem row_put1 {w : World} {B g n c k j : Nat} {L : List (Ru × Value)} (h : w.ownsRow B 72 6 (.slice (some ⟨g, 0, none⟩) n c) n (L.flatMap encRv)) (hk : k < L.length) (hj : j < 6) {u : Value} {y : Ru × Value} (hy : encRv y = (encRv L[k]).set j u) :
    (w.setCell ⟨g, k * 6 + j, none⟩ u).ownsRow B 72 6 (.slice (some ⟨g, 0, none⟩) n c) n ((L.set k y).flatMap encRv) ∧ w.grownBy (w.setCell ⟨g, k * 6 + j, none⟩ u) (some g) := by
  have h2 := World.ownsRow.stored h (k * 6 + j) u
  rw [flat_put encRv 6 (fun _ => rfl) u y L k j hk hj hy] at h2
  exact h2
theorem row_put6 {w : World} {B g n c k : Nat} {L : List (Ru × Value)} (h : w.ownsRow B 72 6 (.slice (some ⟨g, 0, none⟩) n c) n (L.flatMap encRv)) (hk : k < L.length) (nm : ByteArray) (st : Bool) (rk : Int) (xs : List Lt) (hg : Bool) (hn : ByteArray) (vb : Value) :
    ((((((w.setCell ⟨g, k * 6, none⟩ (.string nm)).setCell ⟨g, k * 6 + 1, none⟩ (.bool st)).setCell ⟨g, k * 6 + 2, none⟩ (.int .i64 rk)).setCell ⟨g, k * 6 + 3, none⟩ vb).setCell ⟨g, k * 6 + 4, none⟩ (.bool hg)).setCell ⟨g, k * 6 + 5, none⟩ (.string hn)).ownsRow B 72 6 (.slice (some ⟨g, 0, none⟩) n c) n ((L.set k (⟨nm, st, rk, xs, ⟨hg, hn⟩⟩, vb)).flatMap encRv) ∧
      w.grownBy ((((((w.setCell ⟨g, k * 6, none⟩ (.string nm)).setCell ⟨g, k * 6 + 1, none⟩ (.bool st)).setCell ⟨g, k * 6 + 2, none⟩ (.int .i64 rk)).setCell ⟨g, k * 6 + 3, none⟩ vb).setCell ⟨g, k * 6 + 4, none⟩ (.bool hg)).setCell ⟨g, k * 6 + 5, none⟩ (.string hn)) (some g) := by
  obtain ⟨⟨⟨a, b, c', d, ⟨e, f⟩⟩, v⟩, hL⟩ : ∃ z, L[k] = z := ⟨_, rfl⟩
  obtain ⟨h1, g1⟩ := row_put1 h hk (j := 0) (by decide) (u := .string nm) (y := (⟨nm, b, c', xs, ⟨e, f⟩⟩, v)) (by rw [hL]; rfl)
  obtain ⟨h2, g2⟩ := row_put1 h1 (k := k) (by simpa using hk) (j := 1) (by decide) (u := .bool st) (y := (⟨nm, st, c', xs, ⟨e, f⟩⟩, v)) (by rw [List.getElem_set_self]; rfl)
  obtain ⟨h3, g3⟩ := row_put1 h2 (k := k) (by simpa using hk) (j := 2) (by decide) (u := .int .i64 rk) (y := (⟨nm, st, rk, xs, ⟨e, f⟩⟩, v)) (by rw [List.getElem_set_self]; rfl)
  obtain ⟨h4, g4⟩ := row_put1 h3 (k := k) (by simpa using hk) (j := 3) (by decide) (u := vb) (y := (⟨nm, st, rk, xs, ⟨e, f⟩⟩, vb)) (by rw [List.getElem_set_self]; rfl)
  obtain ⟨h5, g5⟩ := row_put1 h4 (k := k) (by simpa using hk) (j := 4) (by decide) (u := .bool hg) (y := (⟨nm, st, rk, xs, ⟨hg, f⟩⟩, vb)) (by rw [List.getElem_set_self]; rfl)
  obtain ⟨h6, g6⟩ := row_put1 h5 (k := k) (by simpa using hk) (j := 5) (by decide) (u := .string hn) (y := (⟨nm, st, rk, xs, ⟨hg, hn⟩⟩, vb)) (by rw [List.getElem_set_self]; rfl)
  simp only [List.set_set] at h6
  exact ⟨h6, only_trans (only_trans (only_trans (only_trans (only_trans g1 g2) g3) g4) g5) g6⟩
theorem zip_self {α β : Type} : ∀ L : List (α × β), (L.map (·.1)).zip (L.map (·.2)) = L
  | [] => rfl
  | (a, b) :: r => by simp [zip_self r]
/-- A filled row of rules, as a base has it. -/
theorem rus_of_row {w : World} {B g n c : Nat} {L : List (Ru × Value)} {rs : List Ru} (h : w.ownsRow B 72 6 (.slice (some ⟨g, 0, none⟩) n c) n (L.flatMap encRv)) (hl : L.length = n) (hr : L.map (·.1) = rs) (hb : ∀ i (h : i < L.length), OwnL w B L[i].2 L[i].1.body) : OwnRu w B (fun k => B ≤ k) (.slice (some ⟨g, 0, none⟩) n c) rs := by
  subst hr
  refine ⟨L.map (·.2), by simp, by rw [List.length_map, hl, zip_self]; exact h, fun i hi hi' => ?_⟩
  have hiL : i < L.length := by simpa using hi
  simp only [List.getElem_map]
  exact OwnL.bodyInT (hb i hiL) fun g' e => ⟨(owns_blk (hb i hiL) g' e).1, fun e2 => by
    obtain ⟨c1, t1⟩ := owns_tag (hb i hiL) e
    obtain ⟨c2, t2⟩ := owns_tag h e2
    exact tag_ne t1 t2 (by decide) rfl⟩
end Go.Proofs.YtiffcdhiejmbdaaGreatDoor

namespace Go.Proofs.YtiffcdhiejmbdaaGreatDoor
set_option linter.unusedVariables false
set_option linter.unusedSimpArgs false
open Go Go.RowKit

theorem RanksAt.at {w w' : World} {b : Nat} {acc : List Lt} {qs : List Pr} (h : RanksAt w b acc qs) (hk : w'.heap[b]? = w.heap[b]?) : RanksAt w' b acc qs := by
  obtain ⟨n, hn, es, clock, hb, F, hs, hD⟩ := h
  exact ⟨n, hn, es, clock, hk.trans hb, F, hs, hD⟩

/-- Promote under way: its row of rules at g, the first m of them done; all that it needs lies in blocks below N. -/
structure Pv (w : World) (b : Bs) (xs : List Lt) (cs : Array Value) (g mb m N : Nat) (wr : World) (L : List (Ru × Value)) : Prop where
  row : wr.ownsRow w.heap.size 72 6 (.slice (some ⟨g, 0, none⟩) b.rules.length b.rules.length) b.rules.length (L.flatMap encRv)
  len : L.length = b.rules.length
  lo : w.heap.size + 2 ≤ g
  don : ∀ i (h : i < L.length) (h' : i < b.rules.length), i < m → L[i].1 = promR b.proms xs b.rules[i] ∧ OwnL wr w.heap.size L[i].2 L[i].1.body
  map : RanksAt wr mb xs b.proms
  mlo : w.heap.size + 2 ≤ mb
  bel : Below w.heap.size w wr
  box : wr.heap[w.heap.size]? = some (.cells cs 26 (0, 0))
  res : wr.heap[w.heap.size + 1]? = some (.cells #[.slice none 0 0, .slice none 0 0, .slice none 0 0] 26 (0, 0))
  gN : g < N
  mN : mb < N
  bN : ∀ i (h : i < L.length), i < m → ∀ g', L[i].2.ownBlock = some g' → g' < N
  bg : ∀ i (h : i < L.length), i < m → ∀ g', L[i].2.ownBlock = some g' → g' ≠ g
  top : N ≤ wr.heap.size
section
variable {w wr w' : World} {b : Bs} {xs : List Lt} {cs : Array Value} {g mb m N : Nat} {L : List (Ru × Value)}
theorem Pv.keep (h : Pv w b xs cs g mb m N wr L) (hb : Below N wr w') : Pv w b xs cs g mb m N w' L := by
  have hlo := h.lo
  have hgN := h.gN
  refine ⟨owns_kept h.row fun g' e => hb.block g' (by have e2 : g = g' := (by simpa [Value.ownBlock] using e); omega), h.len, h.lo, fun i hi hi' him => ⟨(h.don i hi hi' him).1, owns_kept (h.don i hi hi' him).2 fun g' e => hb.block g' (h.bN i hi him g' e)⟩, h.map.at (hb.block mb h.mN), h.mlo, ?_, (hb.block _ (by omega)).trans h.box, (hb.block _ (by omega)).trans h.res, h.gN, h.mN, h.bN, h.bg, Nat.le_trans h.top hb.size⟩
  exact h.bel.trans (Below.mono hb (by omega))
theorem Pv.up {N' : Nat} (h : Pv w b xs cs g mb m N wr L) (h1 : N ≤ N') (h2 : N' ≤ wr.heap.size) : Pv w b xs cs g mb m N' wr L :=
  ⟨h.row, h.len, h.lo, h.don, h.map, h.mlo, h.bel, h.box, h.res, Nat.lt_of_lt_of_le h.gN h1, Nat.lt_of_lt_of_le h.mN h1, fun i hi him g' e => Nat.lt_of_lt_of_le (h.bN i hi him g' e) h1, h.bg, h2⟩
/-- One rule more. -/
theorem Pv.put (h : Pv w b xs cs g mb m N wr L) (hm : m < b.rules.length) {nm : ByteArray} {st : Bool} {rk : Int} {ys : List Lt} {hg : Bool} {hn : ByteArray} {vb : Value} (hr : promR b.proms xs b.rules[m] = ⟨nm, st, rk, ys, ⟨hg, hn⟩⟩) (ho : OwnL wr w.heap.size vb ys) (hob : ∀ g', vb.ownBlock = some g' → g' ≠ g) :
    Pv w b xs cs g mb (m + 1) wr.heap.size ((((((wr.setCell ⟨g, m * 6, none⟩ (.string nm)).setCell ⟨g, m * 6 + 1, none⟩ (.bool st)).setCell ⟨g, m * 6 + 2, none⟩ (.int .i64 rk)).setCell ⟨g, m * 6 + 3, none⟩ vb).setCell ⟨g, m * 6 + 4, none⟩ (.bool hg)).setCell ⟨g, m * 6 + 5, none⟩ (.string hn)) (L.set m (⟨nm, st, rk, ys, ⟨hg, hn⟩⟩, vb)) := by
  have hlo := h.lo
  have hmlo := h.mlo
  have hmL : m < L.length := by rw [h.len]; exact hm
  obtain ⟨h6, g6⟩ := row_put6 h.row hmL nm st rk ys hg hn vb
  have hmg : mb ≠ g := fun e => by
    obtain ⟨n, -, es, clock, hb, -⟩ := h.map
    obtain ⟨c, hc⟩ := owns_tag h.row (g := g) rfl
    rw [e, hc] at hb
    cases hb
  have hgx := Nat.lt_of_lt_of_le h.gN h.top
  generalize ((((((wr.setCell ⟨g, m * 6, none⟩ (.string nm)).setCell ⟨g, m * 6 + 1, none⟩ (.bool st)).setCell ⟨g, m * 6 + 2, none⟩ (.int .i64 rk)).setCell ⟨g, m * 6 + 3, none⟩ vb).setCell ⟨g, m * 6 + 4, none⟩ (.bool hg)).setCell ⟨g, m * 6 + 5, none⟩ (.string hn)) = w6 at *
  have hk : ∀ k, k < wr.heap.size → k ≠ g → w6.heap[k]? = wr.heap[k]? := fun k h1 h2 => g6.block k h1 (fun e => h2 (by injection e))
  have hset : ∀ i (hi : i < (L.set m (⟨nm, st, rk, ys, ⟨hg, hn⟩⟩, vb)).length), (i = m ∧ (L.set m (⟨nm, st, rk, ys, ⟨hg, hn⟩⟩, vb))[i] = (⟨nm, st, rk, ys, ⟨hg, hn⟩⟩, vb)) ∨ (i ≠ m ∧ ∃ hi' : i < L.length, (L.set m (⟨nm, st, rk, ys, ⟨hg, hn⟩⟩, vb))[i] = L[i]) := fun i hi => by
    by_cases e : i = m
    · subst e
      exact .inl ⟨rfl, List.getElem_set_self _⟩
    · exact .inr ⟨e, by simpa using hi, List.getElem_set_ne (fun e' => e e'.symm) _⟩
  refine ⟨h6, by rw [List.length_set, h.len], h.lo, fun i hi hi' him => ?_, h.map.at (hk mb (Nat.lt_of_lt_of_le h.mN h.top) hmg), h.mlo, ?_, (hk _ (by omega) (by omega)).trans h.box, (hk _ (by omega) (by omega)).trans h.res, hgx, Nat.lt_of_lt_of_le h.mN h.top, fun i hi him g' e => ?_, fun i hi him g' e => ?_, g6.size⟩
  · rcases hset i hi with ⟨rfl, e⟩ | ⟨hne, hiL, e⟩
    · simp only [e]
      exact ⟨hr.symm, owns_kept ho fun g' e' => hk g' (owns_blk ho g' e').2 (hob g' e')⟩
    · simp only [e]
      have h1 := h.don i hiL hi' (by omega)
      exact ⟨h1.1, owns_kept h1.2 fun g' e' => hk g' (owns_blk h1.2 g' e').2 (h.bg i hiL (by omega) g' e')⟩
  · exact below_app5 h.bel g6 (fun g' e => by injection e with e; omega) h.bel.size
  · rcases hset i hi with ⟨rfl, e2⟩ | ⟨hne, hiL, e2⟩
    · rw [e2] at e
      exact (owns_blk ho g' e).2
    · rw [e2] at e
      exact Nat.lt_of_lt_of_le (h.bN i hiL (by omega) g' e) h.top
  · rcases hset i hi with ⟨rfl, e2⟩ | ⟨hne, hiL, e2⟩
    · rw [e2] at e
      exact hob g' e
    · rw [e2] at e
      exact h.bg i hiL (by omega) g' e
/-- All rules done, and the result's box written. -/
theorem Pv.rulesAt (h : Pv w b xs cs g mb b.rules.length N wr L) (hk : ∀ k, k ≠ w.heap.size + 1 → w'.heap[k]? = wr.heap[k]?) : OwnRu w' w.heap.size (fun k => w.heap.size ≤ k) (.slice (some ⟨g, 0, none⟩) b.rules.length b.rules.length) (b.rules.map (promR b.proms xs)) := by
  have hlo := h.lo
  have hrow : w'.ownsRow w.heap.size 72 6 (.slice (some ⟨g, 0, none⟩) b.rules.length b.rules.length) b.rules.length (L.flatMap encRv) := owns_kept h.row fun g' e => hk g' (by have e2 : g = g' := (by simpa [Value.ownBlock] using e); omega)
  refine rus_of_row hrow h.len ?_ fun i hi => ?_
  · apply List.ext_getElem
    · rw [List.length_map, List.length_map, h.len]
    · intro i h1 h2
      rw [List.getElem_map, List.getElem_map]
      exact (h.don i (by simpa using h1) (by simpa using h2) (by simpa using h2)).1
  · have ho := (h.don i hi (by rw [← h.len]; exact hi) (by rw [← h.len]; exact hi)).2
    exact owns_kept ho fun g' e => hk g' (by
      obtain ⟨c, hc⟩ := owns_tag ho e
      exact tag_ne hc h.res (by decide))
/-- All rules done. -/
theorem Pv.rules (h : Pv w b xs cs g mb b.rules.length N wr L) : OwnRu wr w.heap.size (fun k => w.heap.size ≤ k) (.slice (some ⟨g, 0, none⟩) b.rules.length b.rules.length) (b.rules.map (promR b.proms xs)) := by
  refine rus_of_row h.row h.len ?_ fun i hi => (h.don i hi (by rw [← h.len]; exact hi) (by rw [← h.len]; exact hi)).2
  apply List.ext_getElem
  · rw [List.length_map, List.length_map, h.len]
  · intro i h1 h2
    rw [List.getElem_map, List.getElem_map]
    exact (h.don i (by simpa using h1) (by simpa using h2) (by simpa using h2)).1
end
end Go.Proofs.YtiffcdhiejmbdaaGreatDoor
