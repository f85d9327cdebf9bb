/- The order of the components: attackersOf, the closures, IndexFunc, Delete, Clone, SortFunc at sets; ordered. -/
import Derived.Test.YtcelijjohcfhkaaDoorG0Z
import Derived.Test.YtcelijjohcfhkaaDoorG0R
namespace Go.Proofs.YtcelijjohcfhkaaDoor
set_option linter.unusedVariables false
set_option linter.unusedSimpArgs false
open Go Go.RowKit Go.Sort

def attOf (rat : Nat → BitVec 64) (S : BitVec 64) : BitVec 64 := (members S).foldl (fun a i => a ||| rat i) 0#64
def freeB (rat : Nat → BitVec 64) (listed c : BitVec 64) : Bool := (attOf rat c &&& ~~~(listed ||| c)) == 0#64
/-- The order, as the program makes it; nothing if no component is free. -/
def orderF (rat : Nat → BitVec 64) : Nat → List (BitVec 64) → BitVec 64 → Option (List (BitVec 64))
  | 0, r, _ => if r = [] then some [] else none
  | f + 1, r, listed => if r = [] then some [] else
    match r.findIdx? (freeB rat listed) with
    | none => none
    | some k => (orderF rat f (r.eraseIdx k) (listed ||| r.getD k 0#64)).map (r.getD k 0#64 :: ·)

set_option maxRecDepth 100000 in
set_option maxHeartbeats 1000000 in
theorem attackersOf_any (S : BitVec 64) (N rb : Nat) (rat : Nat → BitVec 64) (w : World) (hr : SetsAt w rb N rat) (hT : Tab w) (hs : ∀ j ∈ members S, j < N) :
    Calls Tryd.prog 49 #[bv S, .slice (some ⟨rb, 0, none⟩) N N] w fun e w' => e = .returned (bv (attOf rat S)) ∧ Below w.heap.size w w' := by
  have HR := hidIt hr
  have HT := hidIt hT
  have HS := hidIt hs
  have HA : Hid (attOf rat S = (members S).foldl (fun a i => a ||| rat i) 0#64) := (rfl : _ = _)
  generalize attOf rat S = A at *
  clear hr hT hs
  go_enter Tryd.func49, Tryd.ntmps49
  go_wp2_with fail
  refine (elements_any S _ HT.out).mono ?_
  rintro e w1 ⟨ev, rfl, ho, hb⟩
  have HB := hidIt hb
  have HR1 := hidIt (HR.out.go hb)
  obtain ⟨ea, ec, rfl, hic⟩ := ho.il.ic
  rw [ints_len]
  have HIC := hidIt hic
  obtain ⟨M, hM⟩ : ∃ M, M = (members S).length := ⟨_, rfl⟩
  have HM := hidIt hM
  rw [← hM]
  have hM64 : M ≤ 64 := by rw [hM]; exact members_len _
  have lr := lt_of_block HR1.out
  clear ho hb hic hM
  go_wp2_with fail
  go_loopw [5, 7, 11] (fun v5 _ vj wr => ∃ j : Nat, v5 = bv (((members S).take j).foldl (fun a i => a ||| rat i) 0#64) ∧ vj = .int .i64 (j : Int) ∧ j ≤ M ∧ wr = w1) (fun _ _ vj _ => M - (intOf vj).toNat)
  case atStart => exact ⟨0, (by first | rfl | trivial), (by first | rfl | trivial), Nat.zero_le _, (by first | rfl | trivial)⟩
  case round =>
    obtain ⟨j, rfl, rfl, hj, rfl⟩ := hrel
    have hjI0 : (0 : Int) ≤ (j : Int) := by omega
    by_cases hlt : j < M
    · have hjI : (j : Int) < (M : Int) := by omega
      have hjl : j < (members S).length := by rw [← HM.out]; exact hlt
      obtain ⟨b, off, rfl, lb, hcs⟩ := HIC.out.at_ (k := j) (by rw [ints_len]; exact hjl)
      have c0 : wr.cell? ⟨b, off + j, none⟩ = some (.int .i64 (((members S)[j] : Nat) : Int)) := by
        have := hcs j (by rw [ints_len]; exact hjl)
        rw [this]
        unfold ints
        simp
      have hkN : (members S)[j] < N := HS.out _ (List.getElem_mem _)
      have HST : Hid (((members S).take (j + 1)).foldl (fun a i => a ||| rat i) 0#64 = ((members S).take j).foldl (fun a i => a ||| rat i) 0#64 ||| rat (members S)[j]) := by
        show _ = _
        rw [List.take_succ_eq_append_getElem hjl, List.foldl_append]
        rfl
      generalize (members S)[j] = k at *
      clear hcs
      have hk0 : (0 : Int) ≤ (k : Int) := by omega
      have hkI : (k : Int) < (N : Int) := by omega
      have q0 := HR1.out.cell hkN
      generalize ((members S).take j).foldl (fun a i => a ||| rat i) 0#64 = T at *
      have HOR := hidIt (bits_or_bv T (rat k))
      go_wp2_with fail
      rw [HOR.out]
      go_roundw
      case rel => exact ⟨j + 1, (by rw [HST.out]), by go_num, by omega, (by first | rfl | trivial)⟩
      case measure => simp [intOf]; omega
    · have hjI : ¬ (j : Int) < (M : Int) := by omega
      have HE : Hid (((members S).take j).foldl (fun a i => a ||| rat i) 0#64 = A) := by
        show _ = _
        rw [List.take_of_length_le (by rw [← HM.out]; omega), HA.out]
      rw [HE.out]
      go_wp2_with fail
      go_ret
      exact ⟨rfl, HB.out⟩

set_option maxRecDepth 100000 in
set_option maxHeartbeats 1000000 in
theorem isFree_any (c listed : BitVec 64) (N rb X K : Nat) (rat : Nat → BitVec 64) (w : World) (hx : w.heap[X]? = some (.cells #[.slice (some ⟨rb, 0, none⟩) N N] 49 (0, 0))) (hk : w.heap[K]? = some (.cells #[bv listed] 54 (0, 0))) (hr : SetsAt w rb N rat) (hT : Tab w) (hs : ∀ j ∈ members c, j < N) :
    Calls Tryd.prog 48 #[bv c, .pointer (some ⟨X, 0, none⟩), .pointer (some ⟨K, 0, none⟩)] w fun e w' => e = .returned (.bool (freeB rat listed c)) ∧ Below w.heap.size w w' := by
  have x0 := one_cell hx
  have k0 := one_cell hk
  have lx := lt_of_block hx
  have lk := lt_of_block hk
  have X0 := fun y => Ext.cell x0 y
  have K0 := fun y => Ext.cell k0 y
  have LX := fun y : In (Ext w) => Nat.lt_of_lt_of_le lx (Below.size y.h)
  have LK := fun y : In (Ext w) => Nat.lt_of_lt_of_le lk (Below.size y.h)
  have HCA : Hid (∀ wx : World, Ext w wx → Calls Tryd.prog 49 #[bv c, .slice (some ⟨rb, 0, none⟩) N N] wx fun e w' => e = .returned (bv (attOf rat c)) ∧ Below wx.heap.size wx w') := fun wx hC => attackersOf_any c N rb rat wx (hr.go hC) (hT.go hC) hs
  have HF : Hid (freeB rat listed c = ((attOf rat c &&& ~~~(listed ||| c)) == 0#64)) := (rfl : _ = _)
  generalize freeB rat listed c = F at *
  generalize attOf rat c = A at *
  have HO1 := bits_or_bv listed c
  have HO2 := bits_andNot_bv A (listed ||| c)
  have HB0 : Hid (Below w.heap.size w w) := Below.refl _ _
  generalize hR : (A &&& ~~~(listed ||| c)) = R at *
  have HO3 : Hid (bits .andNot .u64 (A.toNat : Int) ((listed.toNat ||| c.toNat : Nat) : Int) = (R.toNat : Int)) := by show _ = _; rw [← BitVec.toNat_or]; exact HO2
  clear hx hk hr hT hs x0 k0 lx lk
  by_cases hz : R = 0#64
  · have HE : Hid (F = true) := by show _ = _; rw [HF.out, hz]; rfl
    have hb : ((R.toNat : Int) == 0) = true := by rw [hz]; rfl
    clear hz
    go_enter Tryd.func48, Tryd.ntmps48
    go_wp2_with fail
    haveI := Ext.nonempty w
    refine wp_region_in (Ext w) (by kernel_rfl) (by kernel_rfl) (Ext.start w) ?_
    repeat (go_big_quiet_step ((go_at_call 49; refine Ext.call (HCA.out _ (In.h _)))))
    refine wpQuiet_nil ?_
    rintro w5 ⟨⟨_, h5⟩, rfl⟩
    have HB5 := hidIt (show RowKit.Below w.heap.size w _ from h5)
    clear h5 X0 K0 LX LK
    go_wp2_with fail
    go_ret
    exact ⟨ret_bool (by rw [HE.out, HO3.out]; exact hb), HB5.out⟩
  · have HE : Hid (F = false) := by show _ = _; rw [HF.out]; exact beq_eq_false_iff_ne.2 hz
    have hb : ((R.toNat : Int) == 0) = false := by have := bv_ne hz; exact beq_eq_false_iff_ne.2 (by omega)
    clear hz
    go_enter Tryd.func48, Tryd.ntmps48
    go_wp2_with fail
    haveI := Ext.nonempty w
    refine wp_region_in (Ext w) (by kernel_rfl) (by kernel_rfl) (Ext.start w) ?_
    repeat (go_big_quiet_step ((go_at_call 49; refine Ext.call (HCA.out _ (In.h _)))))
    refine wpQuiet_nil ?_
    rintro w5 ⟨⟨_, h5⟩, rfl⟩
    have HB5 := hidIt (show RowKit.Below w.heap.size w _ from h5)
    clear h5 X0 K0 LX LK
    go_wp2_with fail
    go_ret
    exact ⟨ret_bool (by rw [HE.out, HO3.out]; exact hb), HB5.out⟩

/-- A list of sets that is read. -/
def UC (w : World) (a : Option Addr) (cs : List (BitVec 64)) : Prop := cs = [] ∨ ∃ b off, a = some ⟨b, off, none⟩ ∧ b < w.heap.size ∧
  ∀ i (h : i < cs.length), w.cell? ⟨b, off + i, none⟩ = some (bv cs[i])
theorem UC.go {w w' : World} {a : Option Addr} {cs : List (BitVec 64)} (h : UC w a cs) (hb : Below w.heap.size w w') : UC w' a cs := by
  rcases h with h | ⟨b, off, h1, h2, h3⟩
  · exact .inl h
  · exact .inr ⟨b, off, h1, Nat.lt_of_lt_of_le h2 hb.size, fun i hi => (Below.cell (p := ⟨b, off + i, none⟩) hb h2).trans (h3 i hi)⟩
theorem UC.at_ {w : World} {a : Option Addr} {cs : List (BitVec 64)} (h : UC w a cs) {k : Nat} (hk : k < cs.length) : ∃ b off, a = some ⟨b, off, none⟩ ∧ b < w.heap.size ∧
    ∀ i (h : i < cs.length), w.cell? ⟨b, off + i, none⟩ = some (bv cs[i]) := by
  rcases h with h | h
  · rw [h] at hk; exact absurd hk (Nat.not_lt_zero _)
  · exact h
theorem OwnU.uc {w : World} {B : Nat} {v : Value} {cs : List (BitVec 64)} (h : OwnU w B v cs) : ∃ (a : Option Addr) (c : Nat), v = .slice a cs.length c ∧ UC w a cs := by
  rcases h.2 with ⟨rfl, h0⟩ | ⟨g, cap, cur, rfl, hB, hg, hnc, hcm, -, -⟩
  · exact ⟨none, 0, by rw [h0], .inl (List.eq_nil_of_length_eq_zero h0)⟩
  · refine ⟨_, cap, rfl, .inr ⟨g, 0, rfl, lt_of_block hg, fun i hi => ?_⟩⟩
    rw [Nat.zero_add]
    exact owns_cell h rfl i _ (by rw [List.getElem?_map, List.getElem?_eq_getElem hi]; rfl)

def idxU (p : BitVec 64 → Bool) (cs : List (BitVec 64)) : Int := match cs.findIdx? p with | some k => (k : Int) | none => -1
theorem findIdx_all {p : BitVec 64 → Bool} {cs : List (BitVec 64)} (h : ∀ j (hj : j < cs.length), p cs[j] = false) : cs.findIdx? p = none := by
  rw [List.findIdx?_eq_none_iff]
  intro x hx
  obtain ⟨j, hj, rfl⟩ := List.getElem_of_mem hx
  exact h j hj
theorem findIdx_at {p : BitVec 64 → Bool} {cs : List (BitVec 64)} {k : Nat} (hk : k < cs.length) (h1 : ∀ j (hj : j < k), p (cs[j]'(by omega)) = false) (h2 : p cs[k] = true) : cs.findIdx? p = some k := by
  rw [List.findIdx?_eq_some_iff_getElem]
  exact ⟨hk, h2, fun j hj => by rw [h1 j hj]; decide⟩

set_option maxRecDepth 100000 in
set_option maxHeartbeats 1000000 in
theorem indexU_any (p : BitVec 64 → Bool) (X K : Nat) (a : Option Addr) (cap : Nat) (cs : List (BitVec 64)) (w : World) (hc : UC w a cs) (hl : cs.length ≤ 1000)
    (hp : ∀ c ∈ cs, ∀ wx, Ext w wx → Calls Tryd.prog 48 #[bv c, .pointer (some ⟨X, 0, none⟩), .pointer (some ⟨K, 0, none⟩)] wx fun e w' => e = .returned (.bool (p c)) ∧ Below wx.heap.size wx w') :
    Calls Tryd.prog 50 #[.slice a cs.length cap, .func (.func 48) #[] #[.pointer (some ⟨X, 0, none⟩), .pointer (some ⟨K, 0, none⟩)]] w fun e w' => e = .returned (.int .i64 (idxU p cs)) ∧ Below w.heap.size w w' := by
  have HC := hidIt hc
  have HP := hidIt hp
  obtain ⟨M, hM⟩ : ∃ M, M = cs.length := ⟨_, rfl⟩
  have HM := hidIt hM
  rw [← hM] at hl ⊢
  clear hM hc hp
  go_enter Tryd.func50, Tryd.ntmps50
  go_wp2_with fail
  go_loopw [5, 8] (fun _ vk wr => ∃ k : Nat, vk = .int .i64 (k : Int) ∧ k ≤ M ∧ Hid (∀ j, j < k → ∀ hj : j < cs.length, p cs[j] = false) ∧ Hid (Below w.heap.size w wr)) (fun _ vk _ => M - (intOf vk).toNat)
  case atStart => exact ⟨0, (by first | rfl | trivial), Nat.zero_le _, (fun j hj => absurd hj (Nat.not_lt_zero _) : ∀ j, j < 0 → ∀ hj : j < cs.length, p cs[j] = false), Below.refl _ _⟩
  case round =>
    obtain ⟨k, rfl, hk, HN, HB⟩ := hrel
    have hkI0 : (0 : Int) ≤ (k : Int) := by omega
    by_cases hlt : k < M
    · have hkI : (k : Int) < (M : Int) := by omega
      have hkl : k < cs.length := by rw [← HM.out]; exact hlt
      obtain ⟨b, off, rfl, lb, hcs⟩ := (HC.out.go HB.out).at_ hkl
      have c0 := hcs k hkl
      have HCA := hidIt (HP.out cs[k] (List.getElem_mem _) wr HB.out)
      have HNX : Hid (p cs[k] = false → ∀ j, j < k + 1 → ∀ hj : j < cs.length, p cs[j] = false) := fun h j hj hjl => by
        by_cases e : j = k
        · subst e; exact h
        · exact HN.out j (by omega) hjl
      have HYX : Hid (p cs[k] = true → idxU p cs = (k : Int)) := fun h => by
        unfold idxU
        rw [findIdx_at hkl (fun j hj => HN.out j hj (by omega)) h]
      generalize cs[k] = c at *
      clear hcs
      cases hpc : p c
      · have HNN := hidIt (HNX.out hpc)
        rw [hpc] at HCA
        clear hpc HNX HYX
        go_wp2_with fail
        refine HCA.out.mono ?_
        rintro e w2 ⟨rfl, hb⟩
        have HB2 := hidIt (HB.out.trans (Below.mono hb HB.out.size))
        clear hb
        go_wp2_with fail
        go_roundw
        case rel => exact ⟨k + 1, by go_num, by omega, HNN.out, HB2.out⟩
        case measure => simp [intOf]; omega
      · have HE := hidIt (HYX.out hpc)
        rw [hpc] at HCA
        clear hpc HNX HYX
        go_wp2_with fail
        refine HCA.out.mono ?_
        rintro e w2 ⟨rfl, hb⟩
        have HB2 := hidIt (HB.out.trans (Below.mono hb HB.out.size))
        clear hb
        go_wp2_with fail
        go_ret
        exact ⟨ret_int HE.out.symm, HB2.out⟩
    · have hkI : ¬ (k : Int) < (M : Int) := by omega
      have HE : Hid (idxU p cs = -1) := by
        show _ = _
        unfold idxU
        rw [findIdx_all (fun j hj => HN.out j (by have := HM.out; omega) hj)]
      go_wp2_with fail
      go_ret
      exact ⟨ret_int HE.out.symm, HB.out⟩
end Go.Proofs.YtcelijjohcfhkaaDoor
