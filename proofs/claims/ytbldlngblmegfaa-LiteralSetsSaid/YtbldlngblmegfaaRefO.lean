/- The reference's Names. -/
import Derived.Test.YtbldlngblmegfaaRefM
import Derived.Test.YtbldlngblmegfaaNames
import Derived.OwnWalk
namespace Go.Proofs.Ytbldlngblmegfaa
open Go.RowKit Go.Sort

/-- A list of strings that the call owns. -/
def OwnT (w : World) (B : Nat) (v : Value) (l : List ByteArray) : Prop := w.ownsRow B 9 1 v l.length (l.map Value.string)
theorem OwnT.nil (w : World) (B : Nat) : OwnT w B (.slice none 0 0) [] := World.ownsRow_nil w B _ _
theorem OwnT.block {w : World} {B : Nat} {v : Value} {l : List ByteArray} (h : OwnT w B v l) : ∀ g, v.ownBlock = some g → B ≤ g ∧ g < w.heap.size := World.ownsRow.lt h
theorem OwnT.go {w w' : World} {B : Nat} {v : Value} {l : List ByteArray} (h : OwnT w B v l) (hb : Below w.heap.size w w') : OwnT w' B v l := by
  refine World.ownsRow.kept h (only_of_below hb none) ?_
  cases hv : v.ownBlock with
  | none => exact .inl rfl
  | some g => exact .inr (by simp)
theorem OwnT.row {w : World} {B : Nat} {v : Value} {l : List ByteArray} (h : OwnT w B v l) : ∃ (a : Option Addr) (c : Nat), v = .slice a l.length c ∧ SRow w a (l.map fun s => s.data.toList) := by
  rcases h.2 with ⟨rfl, h0⟩ | ⟨g, cap, cur, rfl, hB, hg, hnc, hcm, hcs, htake⟩
  · obtain rfl : l = [] := List.eq_nil_of_length_eq_zero h0
    exact ⟨none, 0, rfl, fun i hi => by simp at hi⟩
  · refine ⟨_, cap, rfl, fun i hi => ⟨g, 0, rfl, lt_of_block hg, ?_⟩⟩
    have hi' : i < l.length := by simpa using hi
    have := World.ownsRow.cells h (g := g) rfl i (.string l[i]) (by simp [List.getElem?_eq_getElem hi'])
    have e : (⟨g, 0, none⟩ : Addr).add i = ⟨g, 0 + i, none⟩ := by unfold Addr.add; split <;> simp_all
    rw [e] at this
    rw [this]
    simp [encStr]

theorem cell_one1 {w : World} {b : Nat} {x : Value} {t : TypeId} (h : w.heap[b]? = some (.cells #[x] t (0, 0))) : w.cell? ⟨b, 0, none⟩ = some x := by simp [World.cell?, h]

theorem wpList_append_t {w : World} {ops : Array Oper} {rest : List Oper} {o : Oper} {a : Act} {Q : Exit → Act → World → Prop} (hgd : o.guard = none) (s x : Operand)
    (ho : o.op = .call { callee := .builtin .append, args := #[s, x], argTypes := #[33, 33] }) (B : Nat) (v : Value) (l : List ByteArray) (hs : a.eval s = v) (hown : OwnT w B v l)
    (m c1 : Nat) (hx : a.eval x = .slice (some ⟨m, 0, none⟩) 1 c1) {t : ByteArray} {ty : TypeId} (hm : w.heap[m]? = some (.cells #[.string t] ty (0, 0))) (hlen : l.length ≤ 1000000) (hB : B ≤ w.heap.size)
    (h : ∀ v' w', OwnT w' B v' (l ++ [t]) → w.grownBy w' v.ownBlock → wpList Try.prog ops Q rest (a.put o.dst v') w') : wpList Try.prog ops Q (o :: rest) a w := by
  obtain ⟨i0, hi, hz0, hz1, hz2⟩ := info_parts infoS
  refine wpList_append_own w hgd s x 33 ho B 9 i0 _ 1 16 Try.underlying33 hi hz0 hz1 hz2 rfl (by decide) v l.length _ hs hown ⟨m, 0, none⟩ 1 c1 [.string t] hx rfl ?_ (fun u hu => by rw [List.mem_singleton.1 hu]; rfl) (by unfold maxLen; omega) (by omega) hB (fun v' w' h2 h3 _ => ?_)
  · intro j u hj
    match j, hj with
    | 0, hj =>
      simp only [List.getElem?_cons_zero, Option.some.injEq] at hj
      rw [← hj]
      have e : (⟨m, 0, none⟩ : Addr).add 0 = ⟨m, 0, none⟩ := rfl
      rw [e]
      exact cell_one1 hm
    | j + 1, hj => simp at hj
  · refine h v' w' ?_ h3
    unfold OwnT
    rw [List.map_append, List.length_append]
    exact h2

theorem nrm_len (xs : List Lt) : (nrm xs).length ≤ xs.length := by
  have h := (compactUpTo_sub (srt xs).toArray _ (Nat.le_refl _)).length_le
  have h2 : (nrm xs).length ≤ ((srt xs).toArray.toList.take (srt xs).toArray.size).length := h
  rw [List.length_take] at h2
  simp at h2
  have h3 : (srt xs).length = xs.length := srt_len xs
  omega

theorem below_da (w : World) (n : Nat) (o : Obj) : Below w.heap.size w ((w.drewN n).alloc o) := below_drew (Below.refl _ _) n |>.alloc (Nat.le_refl _) o
theorem Below.over {w1 w wa w' : World} {row : Option Nat} (h : Below w1.heap.size w1 w) (ha : Below w.heap.size w wa) (hg : wa.grownBy w' row) (hr : ∀ g, row = some g → w1.heap.size ≤ g) : Below w1.heap.size w1 w' :=
  have h2 := h.trans (Below.mono ha h.size)
  ⟨hg.os.trans h2.os, hg.tape.trans h2.tape, hg.output.trans h2.output, Nat.le_trans h2.size hg.size, fun i hi => (hg.block i (Nat.lt_of_lt_of_le hi h2.size) (fun e => by have := hr i e.symm; omega)).trans (h2.block i hi)⟩

/-- The names of an ascending list, each once. -/
def nmsU (l : List Lt) : Nat → List ByteArray
  | 0 => []
  | k + 1 => if k = 0 ∨ (l[k]!).name ≠ (l[k - 1]!).name then nmsU l k ++ [(l[k]!).name] else nmsU l k

theorem nmsU_len (l : List Lt) : ∀ k, (nmsU l k).length ≤ k
  | 0 => Nat.le_refl _
  | k + 1 => by
    have := nmsU_len l k
    unfold nmsU
    split
    · simp; omega
    · omega

theorem cb_lt : ∀ a b : List UInt8, Lib.compareBytes a b < 0 → a < b
  | [], [], h => by simp [Lib.compareBytes] at h
  | [], b :: br, _ => by simp
  | a :: ar, [], h => by simp [Lib.compareBytes] at h
  | a :: ar, b :: br, h => by
    by_cases h1 : a < b
    · exact List.cons_lt_cons_iff.2 (.inl h1)
    · by_cases h2 : b < a
      · simp [Lib.compareBytes, h1, h2] at h
      · have e : a = b := by
          rw [UInt8.lt_iff_toNat_lt] at *
          exact UInt8.toNat_inj.1 (by omega)
        subst e
        simp [Lib.compareBytes] at h
        exact List.cons_lt_cons_iff.2 (.inr ⟨rfl, cb_lt ar br h⟩)

theorem name_le {x y : Lt} (h : cmpI x y < 0) : nmL x ≤ nmL y := by
  rw [cmpI_eq'] at h
  by_cases e : x.name = y.name
  · unfold nmL
    rw [e]
    exact List.le_refl _
  · rw [if_neg e] at h
    exact List.le_of_lt (cb_lt _ _ h)

theorem nmsU_facts {l : List Lt} (hl : Asc l) : ∀ k, k ≤ l.length → ((nmsU l k).map fun s => s.data.toList).Pairwise (fun a b => a ≤ b) ∧ ((nmsU l k).map fun s => s.data.toList).Nodup ∧ (∀ s, s ∈ (nmsU l k).map (fun s => s.data.toList) ↔ ∃ i, i < k ∧ nmL l[i]! = s)
  | 0, _ => by simp [nmsU]
  | k + 1, hk => by
    obtain ⟨h1, h2, h3⟩ := nmsU_facts hl k (by omega)
    have hle : ∀ i, i < k → nmL l[i]! ≤ nmL l[k]! := fun i hi => by
      have := List.pairwise_iff_getElem.1 hl i k (by omega) (by omega) hi
      rw [getElem!_pos l i (by omega), getElem!_pos l k (by omega)]
      exact name_le this
    unfold nmsU
    split
    · rename_i hc
      have hnew : ∀ s, s ∈ (nmsU l k).map (fun s => s.data.toList) → s ≠ nmL l[k]! := fun s hs e => by
        obtain ⟨i, hi, hn⟩ := (h3 s).1 hs
        rcases hc with hc | hc
        · omega
        · have h4 : nmL l[i]! ≤ nmL l[k - 1]! := by
            by_cases e2 : i = k - 1
            · rw [e2]; exact List.le_refl _
            · have := List.pairwise_iff_getElem.1 hl i (k - 1) (by omega) (by omega) (by omega)
              rw [getElem!_pos l i (by omega), getElem!_pos l (k - 1) (by omega)]
              exact name_le this
          have h5 := hle (k - 1) (by omega)
          rw [hn, e] at h4
          have h6 := List.le_antisymm h4 h5
          exact hc (bytes_eq h6)
      rw [List.map_append]
      refine ⟨List.pairwise_append.2 ⟨h1, by simp, fun a ha b hb => ?_⟩, List.nodup_append.2 ⟨h2, by simp, fun a ha b hb => ?_⟩, fun s => ?_⟩
      · obtain ⟨i, hi, rfl⟩ := (h3 a).1 ha
        simp only [List.map_cons, List.map_nil, List.mem_singleton] at hb
        rw [hb]
        exact hle i hi
      · simp only [List.map_cons, List.map_nil, List.mem_singleton] at hb
        rw [hb]
        exact hnew a ha
      · rw [List.mem_append, h3]
        simp only [List.map_cons, List.map_nil, List.mem_singleton]
        constructor
        · rintro (⟨i, hi, h⟩ | h)
          · exact ⟨i, by omega, h⟩
          · exact ⟨k, by omega, h.symm⟩
        · rintro ⟨i, hi, h⟩
          by_cases e : i = k
          · subst e; exact .inr h.symm
          · exact .inl ⟨i, by omega, h⟩
    · rename_i hc
      refine ⟨h1, h2, fun s => ?_⟩
      rw [h3]
      constructor
      · rintro ⟨i, hi, h⟩
        exact ⟨i, by omega, h⟩
      · rintro ⟨i, hi, h⟩
        by_cases e : i = k
        · subst e
          have hc' : i ≠ 0 ∧ (l[i]!).name = (l[i - 1]!).name := ⟨fun h0 => hc (.inl h0), Classical.byContradiction fun h1 => hc (.inr h1)⟩
          exact ⟨i - 1, by omega, by rw [← h]; unfold nmL; rw [hc'.2]⟩
        · exact ⟨i, by omega, h⟩

theorem compactUpToS_sub (l : List (List UInt8)) : (Lib.compact l).Sublist l := by
  have h : (Lib.compact l).Sublist ((List.range l.toArray.size).map (l.toArray[·]!)) := by
    unfold Lib.compact Lib.compactUpTo
    exact List.filter_sublist.map _
  have e : (List.range l.toArray.size).map (l.toArray[·]!) = l := by
    apply List.ext_getElem
    · simp
    · intro i h1 h2
      simp only [List.getElem_map, List.getElem_range]
      rw [getElem!_pos l.toArray i (by simpa using h2)]
      simp
  rw [e] at h
  exact h

theorem namesL_facts (xs : List Lt) : (namesL xs).Pairwise (fun a b => a ≤ b) ∧ (namesL xs).Nodup ∧ ∀ s, s ∈ namesL xs ↔ s ∈ xs.map nmL := by
  have hs : ((xs.map nmL).mergeSort fun x y => decide (x ≤ y)).Pairwise fun a b => a ≤ b := by
    have := List.pairwise_mergeSort (le := fun x y : List UInt8 => decide (x ≤ y)) (fun a b c h k => by
      simp only [decide_eq_true_eq] at *
      exact List.le_trans h k) (fun a b => by
      simp only [Bool.or_eq_true, decide_eq_true_eq]
      exact List.le_total a b) (xs.map nmL)
    exact this.imp (fun h => by simpa using h)
  have h := compact_facts (fun a b : List UInt8 => a ≤ b) (fun a b h1 h2 => List.le_antisymm h1 h2) _ hs
  refine ⟨?_, h.1, fun s => (h.2 s).trans (List.mergeSort_perm _ _).mem_iff⟩
  have hsub := compactUpToS_sub ((xs.map nmL).mergeSort fun x y => decide (x ≤ y))
  exact hs.sublist hsub

theorem nmsU_names (xs : List Lt) : (nmsU (nrm xs) (nrm xs).length).map (fun s => s.data.toList) = namesL xs := by
  obtain ⟨h1, h2, h3⟩ := nmsU_facts (asc_nrm xs) _ (Nat.le_refl _)
  obtain ⟨k1, k2, k3⟩ := namesL_facts xs
  refine List.Perm.eq_of_pairwise (le := fun a b : List UInt8 => a ≤ b) (fun a b _ _ h k => List.le_antisymm h k) h1 k1 ((List.perm_ext_iff_of_nodup h2 k2).2 fun s => ?_)
  rw [h3, k3, List.mem_map]
  constructor
  · rintro ⟨i, hi, h⟩
    refine ⟨(nrm xs)[i]!, ?_, h⟩
    rw [getElem!_pos _ i hi]
    exact ((nrm_facts xs).2 _).1 (List.getElem_mem hi)
  · rintro ⟨x, hx, h⟩
    obtain ⟨i, hi, e⟩ := List.mem_iff_getElem.1 (((nrm_facts xs).2 x).2 hx)
    exact ⟨i, hi, by rw [getElem!_pos _ i hi, e]; exact h⟩

set_option maxRecDepth 100000 in
set_option maxHeartbeats 1000000 in
theorem rNames_any (v : Value) (xs : List Lt) (w : World) (h : LitsAt w v xs) (hn : xs.length ≤ 1000) :
    Calls Try.prog 27 #[v] w fun e w' => ∃ (a : Option Addr) (c : Nat), e = .returned (.slice a (namesL xs).length c) ∧ SRow w' a (namesL xs) ∧ Below w.heap.size w w' := by
  have HL := hidIt h
  have hle : (nrm xs).length ≤ 1000 := Nat.le_trans (nrm_len xs) hn
  clear h
  go_enter Try.func27, Try.ntmps27
  go_wp2_with fail
  refine (rNormal_any v xs w HL.out hn).mono ?_
  rintro e w1 ⟨v1, rfl, hl1, hb1⟩
  have HN := hidIt (nmsU_names xs)
  obtain ⟨a1, c1, rfl, -⟩ := hl1.form
  have HL1 := hidIt hl1
  have HB1 := hidIt hb1
  clear hl1 hb1 HL
  generalize nrm xs = l at *
  go_wp2_with fail
  go_loopw [3, 5] (fun o i wr => ∃ k : Nat, k ≤ l.length ∧ i = .int .i64 k ∧ Hid (OwnT wr w1.heap.size o (nmsU l k)) ∧ Hid (Below w1.heap.size w1 wr)) (fun _ i _ => l.length - (intOf i).toNat)
  case atStart => exact ⟨0, Nat.zero_le _, rfl, OwnT.nil _ _, Below.refl _ _⟩
  case round =>
    obtain ⟨k, hk, rfl, hown, hbel⟩ := hrel
    by_cases hlt : k < l.length
    · have HLr := hidIt (HL1.out.below hbel.out)
      obtain ⟨a', c', e, k1⟩ := HLr.out.form
      obtain ⟨b1, o1, ha, p0, p1⟩ := k1 k hlt
      injection e with e1 e2 e3
      subst e1 e3
      subst ha
      have hst : Hid (nmsU l (k + 1) = if k = 0 ∨ (l[k]!).name ≠ (l[k - 1]!).name then nmsU l k ++ [(l[k]!).name] else nmsU l k) := rfl
      have hlen := hidIt (nmsU_len l k)
      have hlenk := hlen.out
      by_cases hk0 : k = 0
      · subst hk0
        clear k1
        generalize (l[0]!) = y at *
        obtain ⟨gk, sk⟩ := y
        simp only at p0 p1 hst
        simp only [Nat.zero_mul, Nat.add_zero] at p0 p1
        go_wp2_with fail
        go_quiet (fail)
        have hbw : w1.heap.size ≤ ((wr.drewN nq).alloc (.cells #[.string sk] 9)).heap.size := by have := hbel.out.size; simp; omega
        have HNW := hidIt (heap_alloc_new (wr.drewN nq) (.cells #[.string sk] 9))
        have HO3 : Hid (OwnT ((wr.drewN nq).alloc (.cells #[.string sk] 9)) w1.heap.size u3 (nmsU l (0))) := hown.out.go (below_da _ _ _)
        have HBW := hidIt hbw
        have hob := hidIt hown.out.block
        clear hbw
        go_wp2_with (at_builtin; refine wpList_append_t rfl _ _ rfl w1.heap.size _ (nmsU l (0)) rfl HO3.out _ 1 rfl HNW.out (by omega) HBW.out ?_)
        intro v' w3 ho3 hg3
        have HO4 := hidIt ho3
        have HB4 : Hid (Below w1.heap.size w1 w3) := Below.over (wa := (wr.drewN nq).alloc (.cells #[.string sk] 9)) hbel.out (below_da _ _ _) hg3 (fun g e => (hob.out g e).1)
        clear ho3 hg3
        go_wp2_with fail
        go_roundw
        case rel => exact ⟨0 + 1, by omega, by go_num, by show OwnT _ _ _ _; rw [hst.out, if_pos (.inl (by trivial))]; exact HO4, HB4⟩
        case measure => simp [intOf]; omega
      · obtain ⟨p, rfl⟩ : ∃ p, k = p + 1 := ⟨k - 1, by omega⟩
        obtain ⟨b2, o2, ha2, q0, q1⟩ := k1 p (by omega)
        injection ha2 with ha2
        injection ha2 with eb eo
        subst eb eo
        simp only [Nat.add_sub_cancel] at hst
        have hz : (((p : Int) + 1 == 0) : Bool) = false := by simp; omega
        have hsb : (p : Int) + 1 - 1 = (p : Int) := by omega
        have hwp : IntKind.i64.wrap (p : Int) = (p : Int) := IntWalk.i64_in _ (by omega)
        clear k1
        generalize (l[p + 1]!) = y at *
        generalize (l[p]!) = z at *
        obtain ⟨gk, sk⟩ := y
        obtain ⟨gp, sp⟩ := z
        simp only at p0 p1 q0 q1 hst
        cases hs : (sk.toList == sp.toList)
        · have HS : Hid (sk ≠ sp) := by
            rw [names_same] at hs
            exact of_decide_eq_false hs
          go_wp2_with fail
          go_quiet (fail)
          have hbw : w1.heap.size ≤ ((wr.drewN nq).alloc (.cells #[.string sk] 9)).heap.size := by have := hbel.out.size; simp; omega
          have HNW := hidIt (heap_alloc_new (wr.drewN nq) (.cells #[.string sk] 9))
          have HO3 : Hid (OwnT ((wr.drewN nq).alloc (.cells #[.string sk] 9)) w1.heap.size u3 (nmsU l (p + 1))) := hown.out.go (below_da _ _ _)
          have HBW := hidIt hbw
          have hob := hidIt hown.out.block
          clear hbw
          go_wp2_with (at_builtin; refine wpList_append_t rfl _ _ rfl w1.heap.size _ (nmsU l (p + 1)) rfl HO3.out _ 1 rfl HNW.out (by omega) HBW.out ?_)
          intro v' w3 ho3 hg3
          have HO4 := hidIt ho3
          have HB4 : Hid (Below w1.heap.size w1 w3) := Below.over (wa := (wr.drewN nq).alloc (.cells #[.string sk] 9)) hbel.out (below_da _ _ _) hg3 (fun g e => (hob.out g e).1)
          clear ho3 hg3
          go_wp2_with fail
          go_roundw
          case rel => exact ⟨p + 1 + 1, by omega, by go_num, by show OwnT _ _ _ _; rw [hst.out, if_pos (.inr HS.out)]; exact HO4, HB4⟩
          case measure => simp [intOf]; omega
        · have HS : Hid (sk = sp) := by
            rw [names_same] at hs
            exact hidIt (of_decide_eq_true hs)
          go_wp2_with fail
          go_quiet (fail)
          go_wp2_with fail
          go_roundw
          case rel => exact ⟨p + 1 + 1, by omega, by go_num, by show OwnT _ _ _ _; rw [hst.out, if_neg (fun h => h.elim (fun h => by omega) (fun h => h HS.out))]; exact hown.out.go (below_drew (Below.refl _ _) nq), below_drew hbel.out nq⟩
          case measure => simp [intOf]; omega
    · go_wp2
      go_ret
      have h1 := hown.out
      obtain rfl : k = l.length := by omega
      obtain ⟨a2, c2, e2, hr⟩ := h1.row
      rw [HN.out] at hr
      have e3 : (nmsU l l.length).length = (namesL xs).length := by rw [← HN.out, List.length_map]
      refine ⟨a2, c2, by rw [← e3, ← e2]; rfl, hr, HB1.out.trans (Below.mono hbel.out HB1.out.size)⟩
end Go.Proofs.Ytbldlngblmegfaa
