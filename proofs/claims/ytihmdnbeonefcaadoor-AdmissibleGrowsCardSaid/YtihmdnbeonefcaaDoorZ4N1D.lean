/- The program's sets as bits: elements, attacked, defended, conflictFree, admissible. -/
import Derived.Test.YtihmdnbeonefcaaDoorZ4N1B
import Derived.Test.YtihmdnbeonefcaaDoorZ4N1C
import Derived.Test.YtihmdnbeonefcaaDoorG0J
import Derived.Deep.QuietTactic

namespace Go.Proofs.YtihmdnbeonefcaaDoor
set_option linter.unusedVariables false
set_option linter.unusedSimpArgs false
open Go Go.RowKit Go.Sort

set_option maxRecDepth 100000 in
set_option maxHeartbeats 1000000 in
theorem qElements_any (S : BitVec 64) (w : World) (hT : Tab w) : Calls Tryd.prog 55 #[bv S] w fun e w' => ∃ v, e = .returned v ∧ OwnI w' w.heap.size v (ints (members S)) ∧ Below w.heap.size w w' := by
  have HT := hidIt hT
  clear hT
  go_enter Tryd.func55, Tryd.ntmps55
  go_wp2_with fail
  go_loopw [0, 3] (fun v0 v3 wr => ∃ (T : BitVec 64) (zs : List Nat) (a : Option Addr) (c : Nat), v0 = bv T ∧ v3 = .slice a zs.length c ∧ Hid (zs ++ members T = members S) ∧ Hid (OwnI wr w.heap.size (.slice a zs.length c) (ints zs)) ∧ Hid (Below w.heap.size w wr)) (fun v0 _ _ => (intOf v0).toNat)
  case atStart => exact ⟨S, [], none, 0, rfl, rfl, (rfl : [] ++ members S = members S), OwnI.nil _ _, Below.refl _ _⟩
  case round =>
    obtain ⟨T, zs, a, c, rfl, rfl, HM, HO, HB⟩ := hrel
    by_cases hz : T = 0#64
    · subst hz
      have HE : Hid (ints zs = ints (members S)) := by
        have := HM.out
        rw [members_zero, List.append_nil] at this
        show _ = _
        rw [this]
      go_wp2_with fail
      go_ret
      exact ⟨_, rfl, by rw [← HE.out]; exact HO.out, HB.out⟩
    · have HZ := hidIt hz
      have hne : ((T.toNat : Int) != 0) = true := by have := bv_ne hz; simp; omega
      have hlen : zs.length ≤ 64 := by
        have h1 := congrArg List.length HM.out
        rw [List.length_append] at h1
        have := members_len S
        omega
      have hws := wrap_sub_one hz
      have hand : bits .and .u64 (T.toNat : Int) ((18446744073709551615 + (T.toNat : Int)) % 18446744073709551616) = ((T &&& (T - 1#64)).toNat : Int) := by
        rw [← bits_and_bv]
        have h1 := T.isLt
        have h2 := bv_ne hz
        have e : (18446744073709551615 + (T.toNat : Int)) % 18446744073709551616 = ((T - 1#64).toNat : Int) := by
          rw [sub_one_bv hz]
          omega
        rw [e]
      have HAND2 : Hid (T.toNat &&& (18446744073709551615 + T.toNat) % 18446744073709551616 = (T &&& (T - 1#64)).toNat) := by
        show _ = _
        have h1 := T.isLt
        have h2 := bv_ne hz
        have e : (18446744073709551615 + T.toNat) % 18446744073709551616 = (T - 1#64).toNat := by
          rw [sub_one_bv hz]
          omega
        rw [e, BitVec.toNat_and]
      have HTr := hidIt (HT.out.go HB.out)
      clear hz
      obtain ⟨L, hL⟩ : ∃ L, L = zs.length := ⟨_, rfl⟩
      have HL := hidIt hL
      rw [← hL] at HO hlen ⊢
      clear hL
      go_wp2_with fail
      refine (tz_any T _ HTr.out).mono ?_
      rintro e w2 ⟨rfl, rfl⟩
      have hgr := bgrow w2 (.cells #[.int .i64 (ctzB T : Int)] 3)
      have HO7 : Hid (World.ownsRow (w2.alloc (.cells #[.int .i64 (ctzB T : Int)] 3)) w.heap.size 3 1 (.slice a L c) L ((ints zs).map (Value.int .i64))) := by
        have h := HO.out.go hgr
        unfold OwnI at h
        rw [ints_len, ← HL.out] at h
        exact h
      have HB7 := hidIt (HB.out.trans (Below.mono hgr HB.out.size))
      have hsz7 : w.heap.size ≤ (w2.alloc (.cells #[.int .i64 (ctzB T : Int)] 3)).heap.size := HB7.out.size
      clear hgr HO HB
      go_wp2_with (at_builtin; refine Hid.out ?_)
      refine hidIt ?_
      refine wpList_append_kb rfl _ _ elemI rfl w.heap.size (.slice a L c) L _ rfl HO7.out _ 1 rfl #[.int .i64 (ctzB T : Int)] 3 (heap_alloc_new _ _) rfl (one_of (by rfl)) (by omega) hsz7 ?_
      intro g8 c8 w8 hown8 hg8 hbl8
      have HB8 := hidIt (below_app5 HB7.out hg8 (fun g e => (owns_blk HO7.out g e).1) hsz7)
      have HM8 : Hid ((zs ++ [ctzB T]) ++ members (T &&& (T - 1#64)) = members S) := by
        show _ = _
        rw [← HM.out, members_step HZ.out, List.append_assoc]
        rfl
      have HL8 : Hid ((zs ++ [ctzB T]).length = L + 1) := by show _ = _; rw [List.length_append, HL.out]; rfl
      have HO8 : Hid (OwnI w8 w.heap.size (.slice (some ⟨g8, 0, none⟩) (L + 1) c8) (ints (zs ++ [ctzB T]))) := by
        show World.ownsRow _ _ _ _ _ _ _
        rw [ints_len, HL8.out]
        unfold ints
        rw [List.map_append, List.map_append]
        exact hown8
      have hlt := clear_lt HZ.out
      clear hown8 hg8 hbl8 HO7 HB7 hsz7
      go_wp2_with fail
      go_roundw
      case rel => exact ⟨T &&& (T - 1#64), zs ++ [ctzB T], some ⟨g8, 0, none⟩, c8, (by first | rfl | rw [hand]), (by rw [HL8.out]), HM8.out, (by rw [HL8.out]; exact HO8.out), HB8.out⟩
      case measure =>
        show Int.toNat _ < Int.toNat _
        rw [HAND2.out]
        show ((T &&& (T - 1#64)).toNat : Int).toNat < ((T.toNat : Int)).toNat
        rw [Int.toNat_natCast, Int.toNat_natCast]
        exact hlt

/-- The graph's rows as the program holds them: all nodes, and for each node those that it attacks. -/
def aCells (N : Nat) (f : Nat → BitVec 64) : Array Value := (bv (bOf N allX) :: (List.range 40).map fun i => bv (f i)).toArray
def AtkAt (w : World) (P N : Nat) (f : Nat → BitVec 64) : Prop := w.heap[P]? = some (.cells (aCells N f) 57 (0, 0))
theorem AtkAt.go {w w' : World} {P N : Nat} {f : Nat → BitVec 64} (h : AtkAt w P N f) (hb : Below w.heap.size w w') : AtkAt w' P N f := blk_kept2 h hb
theorem AtkAt.nodes {w : World} {P N : Nat} {f : Nat → BitVec 64} (h : AtkAt w P N f) : w.cell? ⟨P, 0, none⟩ = some (bv (bOf N allX)) := by
  unfold AtkAt at h
  simp [World.cell?, h, aCells]
theorem AtkAt.by_ {w : World} {P N : Nat} {f : Nat → BitVec 64} (h : AtkAt w P N f) {i : Nat} (hi : i < 40) : w.cell? ⟨P, 1 + i, none⟩ = some (bv (f i)) := by
  unfold AtkAt at h
  rw [Nat.add_comm]
  simp [World.cell?, h, aCells, hi]
theorem AtkAt.lt {w : World} {P N : Nat} {f : Nat → BitVec 64} (h : AtkAt w P N f) : P < w.heap.size := lt_of_block h

set_option maxRecDepth 100000 in
set_option maxHeartbeats 1000000 in
theorem qAttacked_any (P N : Nat) (ps : List (Int × Int)) (X : Nat → Bool) (w : World) (h : AtkAt w P N (attB ps)) (hok : GOk (N : Int) ps) (hT : Tab w) :
    Calls Tryd.prog 54 #[.pointer (some ⟨P, 0, none⟩), bv (bOf N X)] w fun e w' => e = .returned (bv (bOf N (hitX ps X))) ∧ ∃ m, w' = w.drewN m := by
  have HT := hidIt hT
  have HA := hidIt h
  have HAF := hidIt (attF_bOf hok X)
  have hN : N ≤ 40 := by have := hok.n40; omega
  have HMB : Hid (∀ k, k ∈ members (bOf N X) → k < 40) := fun k hk => by
    rw [members_bOf (by omega)] at hk
    have := List.mem_range.1 (List.mem_filter.1 hk).1
    omega
  clear hT h hok
  generalize bOf N (hitX ps X) = R at *
  generalize bOf N X = S at *
  go_enter Tryd.func54, Tryd.ntmps54
  go_wp2_with fail
  go_loopw [1, 5] (fun v1 v5 wr => ∃ (T : BitVec 64) (zs : List Nat), v1 = bv T ∧ v5 = bv (attF ps zs) ∧ Hid (zs ++ members T = members S) ∧ Hid (∃ m, wr = w.drewN m)) (fun v1 _ _ => (intOf v1).toNat)
  case atStart => exact ⟨S, [], rfl, rfl, (rfl : [] ++ members S = members S), (⟨0, rfl⟩ : ∃ m, w = w.drewN m)⟩
  case round =>
    obtain ⟨T, zs, rfl, rfl, HM, HD⟩ := hrel
    by_cases hz : T = 0#64
    · subst hz
      have HE : Hid (attF ps zs = R) := by
        have := HM.out
        rw [members_zero, List.append_nil] at this
        show _ = _
        rw [this, HAF.out]
      go_wp2_with fail
      go_ret
      exact ⟨by rw [HE.out]; rfl, HD.out⟩
    · have HZ := hidIt hz
      have hne : ((T.toNat : Int) != 0) = true := by have := bv_ne hz; simp; omega
      have hws := wrap_sub_one hz
      have hand : bits .and .u64 (T.toNat : Int) ((18446744073709551615 + (T.toNat : Int)) % 18446744073709551616) = ((T &&& (T - 1#64)).toNat : Int) := by
        rw [← bits_and_bv]
        have h1 := T.isLt
        have h2 := bv_ne hz
        have e : (18446744073709551615 + (T.toNat : Int)) % 18446744073709551616 = ((T - 1#64).toNat : Int) := by
          rw [sub_one_bv hz]
          omega
        rw [e]
      have HAND2 : Hid (T.toNat &&& (18446744073709551615 + T.toNat) % 18446744073709551616 = (T &&& (T - 1#64)).toNat) := by
        show _ = _
        have h1 := T.isLt
        have h2 := bv_ne hz
        have e : (18446744073709551615 + T.toNat) % 18446744073709551616 = (T - 1#64).toNat := by
          rw [sub_one_bv hz]
          omega
        rw [e, BitVec.toNat_and]
      have HAr : Hid (AtkAt wr P N (attB ps)) := by obtain ⟨m, rfl⟩ := HD.out; exact HA.out
      have HTr : Hid (Tab wr) := by obtain ⟨m, rfl⟩ := HD.out; exact HT.out
      have hk40 : ctzB T < 40 := HMB.out _ (by rw [← HM.out, members_step hz]; exact List.mem_append_right _ (List.mem_cons_self ..))
      have hkI0 : (0 : Int) ≤ (ctzB T : Int) := by omega
      have hkI : (ctzB T : Int) < 40 := by omega
      have c0 := HAr.out.by_ hk40
      have lP := HAr.out.lt
      have HOR := hidIt (bits_or_bv (attF ps zs) (attB ps (ctzB T)))
      have HSN := hidIt (attF_snoc ps zs (ctzB T))
      have HM8 : Hid ((zs ++ [ctzB T]) ++ members (T &&& (T - 1#64)) = members S) := by
        show _ = _
        rw [← HM.out, members_step HZ.out, List.append_assoc]
        rfl
      have hlt := clear_lt HZ.out
      have HTZ : Hid (∀ n : Nat, Calls Tryd.prog 68 #[bv T] (wr.drewN n) fun e w' => e = .returned (.int .i64 (ctzB T : Int)) ∧ w' = wr.drewN n) := fun n => tz_any T _ HTr.out
      clear hz
      generalize ctzB T = k at *
      go_wp2_with fail
      go_quiet (exact Calls.quiet_of_same (HTZ.out _))
      go_wp2_with fail
      go_roundw
      case rel => exact ⟨T &&& (T - 1#64), zs ++ [k], (by first | rfl | rw [hand]), (by first | (rw [HSN.out, ← HOR.out]; done) | (rw [HSN.out]; exact congrArg _ HOR.out)), HM8.out, (by obtain ⟨m, rfl⟩ := HD.out; exact ⟨m + nq, World.drewN_drewN ..⟩ : ∃ m, wr.drewN nq = w.drewN m)⟩
      case measure =>
        show Int.toNat _ < Int.toNat _
        rw [HAND2.out]
        show ((T &&& (T - 1#64)).toNat : Int).toNat < ((T.toNat : Int)).toNat
        rw [Int.toNat_natCast, Int.toNat_natCast]
        exact hlt

/-- The same in any world that is drawn on. -/
theorem AtkAt.drewN {w : World} {P N : Nat} {f : Nat → BitVec 64} (h : AtkAt w P N f) (m : Nat) : AtkAt (w.drewN m) P N f := h
theorem Tab.drewN {w : World} (h : Tab w) (m : Nat) : Tab (w.drewN m) := h

set_option maxRecDepth 100000 in
set_option maxHeartbeats 1000000 in
theorem qDefended_any (P N : Nat) (ps : List (Int × Int)) (X : Nat → Bool) (w : World) (h : AtkAt w P N (attB ps)) (hok : GOk (N : Int) ps) (hT : Tab w) :
    Calls Tryd.prog 53 #[.pointer (some ⟨P, 0, none⟩), bv (bOf N X)] w fun e w' => e = .returned (bv (bOf N (dfX ps X))) ∧ ∃ m, w' = w.drewN m := by
  have hN : N ≤ 64 := by have := hok.n40; omega
  have HC : Hid (∀ (Y : Nat → Bool) (w1 : World), AtkAt w1 P N (attB ps) → Tab w1 → Calls Tryd.prog 54 #[.pointer (some ⟨P, 0, none⟩), bv (bOf N Y)] w1 fun e w' => e = .returned (bv (bOf N (hitX ps Y))) ∧ ∃ m, w' = w1.drewN m) := fun Y w1 h1 h2 => qAttacked_any P N ps Y w1 h1 hok h2
  have HA := hidIt h
  have HT := hidIt hT
  have h0 := h.nodes
  have lP := h.lt
  have HN1 : Hid (bits .andNot .u64 ((bOf N allX).toNat : Int) ((bOf N (hitX ps X)).toNat : Int) = ((bOf N (andX allX (notX (hitX ps X)))).toNat : Int)) := by
    show _ = _
    rw [bits_andNot_bv, bOf_andNot hN]
  have HN2 : Hid (bits .andNot .u64 ((bOf N allX).toNat : Int) ((bOf N (hitX ps (andX allX (notX (hitX ps X))))).toNat : Int) = ((bOf N (dfX ps X)).toNat : Int)) := by
    show _ = _
    rw [bits_andNot_bv, bOf_andNot hN, df_bits hok]
  clear h hok hT
  go_enter Tryd.func53, Tryd.ntmps53
  go_wp2_with fail
  go_quiet (exact Calls.quiet_of (HC.out X _ HA.out HT.out))
  rw [HN1.out]
  have HA1 : Hid (AtkAt (w.drewN nq) P N (attB ps)) := HA.out
  have HT1 : Hid (Tab (w.drewN nq)) := HT.out
  have HD1 : Hid (∃ m, w.drewN nq = w.drewN m) := ⟨nq, rfl⟩
  clear h0 lP HA HT
  generalize w.drewN nq = w1 at *
  have h0 := HA1.out.nodes
  have lP := HA1.out.lt
  generalize hY : andX allX (notX (hitX ps X)) = Y at *
  clear hY HN1
  go_wp2_with fail
  go_quiet (exact Calls.quiet_of (HC.out Y _ HA1.out HT1.out))
  go_wp2_with fail
  go_ret
  exact ⟨by rw [HN2.out]; rfl, by obtain ⟨m, rfl⟩ := HD1.out; exact ⟨_, World.drewN_drewN ..⟩⟩

theorem eq_zero_bv (S : BitVec 64) : ((S.toNat : Int) == 0) = decide (S = 0#64) := by
  rw [Bool.eq_iff_iff, beq_iff_eq, decide_eq_true_eq]
  constructor
  · intro h
    exact bv_ext (by rw [h]; rfl)
  · intro h
    rw [h]; rfl
set_option maxRecDepth 100000 in
set_option maxHeartbeats 1000000 in
theorem qCf_any (P N : Nat) (ps : List (Int × Int)) (X : Nat → Bool) (w : World) (h : AtkAt w P N (attB ps)) (hok : GOk (N : Int) ps) (hT : Tab w) :
    Calls Tryd.prog 49 #[.pointer (some ⟨P, 0, none⟩), bv (bOf N X)] w fun e w' => e = .returned (.bool (cfX ps X)) ∧ ∃ m, w' = w.drewN m := by
  have hN : N ≤ 64 := by have := hok.n40; omega
  have HC := hidIt (qAttacked_any P N ps X w h hok hT)
  have HN1 : Hid (bits .and .u64 ((bOf N (hitX ps X)).toNat : Int) ((bOf N X).toNat : Int) = ((bOf N (andX (hitX ps X) X)).toNat : Int)) := by
    show _ = _
    rw [bits_and_bv, bOf_and hN]
  have HN2 : Hid ((((bOf N (andX (hitX ps X) X)).toNat : Int) == 0) = cfX ps X) := by
    show _ = _
    rw [eq_zero_bv, cf_bits hok]
  clear h hok hT
  go_enter Tryd.func49, Tryd.ntmps49
  go_wp2_with fail
  refine HC.out.mono ?_
  rintro e w1 ⟨rfl, HD⟩
  go_wp2_with fail
  go_ret
  exact ⟨by rw [HN1.out, HN2.out]; rfl, HD⟩

set_option maxRecDepth 100000 in
set_option maxHeartbeats 1000000 in
theorem qAdm_any (P N : Nat) (ps : List (Int × Int)) (X : Nat → Bool) (w : World) (h : AtkAt w P N (attB ps)) (hok : GOk (N : Int) ps) (hT : Tab w) :
    Calls Tryd.prog 51 #[.pointer (some ⟨P, 0, none⟩), bv (bOf N X)] w fun e w' => e = .returned (.bool (admX N ps X)) ∧ ∃ m, w' = w.drewN m := by
  have hN : N ≤ 64 := by have := hok.n40; omega
  have HC := hidIt (qCf_any P N ps X w h hok hT)
  have HE : Hid (∀ m, Calls Tryd.prog 53 #[.pointer (some ⟨P, 0, none⟩), bv (bOf N X)] (w.drewN m) fun e w' => e = .returned (bv (bOf N (dfX ps X))) ∧ ∃ m', w' = (w.drewN m).drewN m') := fun m => qDefended_any P N ps X _ (h.drewN m) hok (hT.drewN m)
  have HN1 : Hid (bits .andNot .u64 ((bOf N X).toNat : Int) ((bOf N (dfX ps X)).toNat : Int) = ((bOf N (andX X (notX (dfX ps X)))).toNat : Int)) := by
    show _ = _
    rw [bits_andNot_bv, bOf_andNot hN]
  have HN2 : Hid ((((bOf N (andX X (notX (dfX ps X)))).toNat : Int) == 0) = subX N X (dfX ps X)) := by
    show _ = _
    rw [eq_zero_bv, sub_bits hN]
  have HM : Hid (admX N ps X = (cfX ps X && subX N X (dfX ps X))) := (rfl : _ = _)
  clear h hok hT
  generalize admX N ps X = A at *
  cases hc : cfX ps X
  · rw [hc] at HC HM
    clear hc
    go_enter Tryd.func51, Tryd.ntmps51
    go_wp2_with fail
    refine HC.out.mono ?_
    rintro e w1 ⟨rfl, HD⟩
    go_wp2_with fail
    go_ret
    exact ⟨ret_bool HM.out.symm, HD⟩
  · rw [hc, Bool.true_and] at HM
    rw [hc] at HC
    clear hc
    go_enter Tryd.func51, Tryd.ntmps51
    go_wp2_with fail
    refine HC.out.mono ?_
    rintro e w1 ⟨rfl, m1, rfl⟩
    go_wp2_with fail
    refine (HE.out m1).mono ?_
    rintro e w2 ⟨rfl, m2, rfl⟩
    go_wp2_with fail
    go_ret
    exact ⟨by rw [HN1.out, HN2.out, HM.out]; rfl, _, rfl⟩
end Go.Proofs.YtihmdnbeonefcaaDoor
