/- The law LiteralSets: the call answers true for every list, literal and list of numbers. -/
import Derived.Test.YtbldlngblmegfaaRefO
import Derived.Test.YtbldlngblmegfaaConsistW
import Derived.Test.YtbldlngblmegfaaOdd
import Derived.ArgAppend
namespace Go.Proofs.Ytbldlngblmegfaa
open Go.RowKit Go.Sort

/-- A list that does not lie in block b. -/
structure LitsB (w : World) (b : Nat) (v : Value) (xs : List Lt) : Prop where
  l : LitsAt w v xs
  ne : ∀ b' off cap, v = .slice (some ⟨b', off, none⟩) xs.length cap → b' ≠ b
theorem LitsB.kept {w w' : World} {b : Nat} {v : Value} {xs : List Lt} (h : LitsB w b v xs) (hg : w.grownBy w' (some b)) : LitsB w' b v xs :=
  ⟨h.l.kept hg (fun g e b' off cap hv => by injection e with e; subst e; exact h.ne b' off cap hv), h.ne⟩
theorem LitsB.go {w w' : World} {b : Nat} {v : Value} {xs : List Lt} (h : LitsB w b v xs) (hb : Below w.heap.size w w') : LitsB w' b v xs := h.kept (only_of_below hb _)
theorem LitsB.of_lt {w : World} {b : Nat} {v : Value} {xs : List Lt} (h : LitsAt w v xs) (hlt : w.heap.size ≤ b) : LitsB w b v xs := ⟨h, fun b' off cap hv => by
  rcases h with ⟨h1, rfl⟩ | ⟨b2, off2, cap2, h1, h2, h3, h4, h5⟩
  · rw [hv] at h1; cases h1
  · rw [hv] at h1
    injection h1 with h1
    injection h1 with h1
    injection h1 with h1
    omega⟩

/-- append to a list that has no room: nothing that lies turns. -/
theorem wpList_append_full {w : World} {ops : Array Oper} {rest : List Oper} {o : Oper} {a : Act} {Q : Exit → Act → World → Prop} (hgd : o.guard = none) (s x : Operand)
    (ho : o.op = .call { callee := .builtin .append, args := #[s, x], argTypes := #[29, 29] }) (ad : Option Addr) (n : Nat) (xs : List Lt) (hs : a.eval s = .slice ad n n) (bb : Nat) (hbb : bb < w.heap.size) (hvb : LitsB w bb (.slice ad n n) xs)
    (vx : Value) (ys : List Lt) (hx : a.eval x = vx) (hl : LitsAt w vx ys) (hlen : xs.length + ys.length ≤ 1000000)
    (h : ∀ v' w', LitsB w' bb v' (xs ++ ys) → Below w.heap.size w w' → wpList Try.prog ops Q rest (a.put o.dst v') w') : wpList Try.prog ops Q (o :: rest) a w := by
  obtain ⟨i0, hi, hz0, hz1, hz2⟩ := info_parts infoL
  have hv := hvb.l
  have hown_to : ∀ {v' : Value} {w' : World} {zs : List Lt}, w'.ownsRow w.heap.size 23 2 v' zs.length (flatL zs) → LitsB w' bb v' zs := fun {v' w' zs} h => ⟨OwnL.lits (B := w.heap.size) h |>.lits, fun b' off cap e => by
    subst e
    have := (OwnL.own_block (B := w.heap.size) h b' rfl).1
    omega⟩
  have hrun0 : vx = .slice none 0 0 → (Builtin.append_ #[29, 29] o.type #[.slice ad n n, .slice none 0 0]).run Try.prog w = .ok (.slice ad n n) w := fun _ => by
    cases ad with
    | none =>
      obtain ⟨rfl, rfl⟩ := hv.nil0
      rcases hv with ⟨h1, -⟩ | ⟨b, off, cap, h1, -⟩
      · simp [Builtin.append_, run_underlying Try.underlying29, sizeOf, typeInfo, hi, Builtin.lenOf, Builtin.firstCells]
      · cases h1
    | some p =>
      obtain ⟨b, off, rfl⟩ := hv.plain0
      simp [Builtin.append_, run_underlying Try.underlying29, sizeOf, typeInfo, hi, Builtin.lenOf, Builtin.firstCells, storeCells]
  rcases hl with ⟨rfl, rfl⟩ | ⟨b, off, cap, rfl, h2, h3, h4, h5⟩
  · refine wpList_plain hgd fun K hK => ?_
    have hr := hrun0 rfl
    unfold Oper.wp
    simp [execOp, ho, resolve, invoke, builtin, hs, hx, hr, Result.andThen]
    exact hK _ _ (h _ _ (by rw [List.append_nil]; exact hvb) (Below.refl _ _))
  · have hnews : ∀ j u, (flatL ys)[j]? = some u → w.cell? ((⟨b, off, none⟩ : Addr).add j) = some u := fun j u hj => by
      have := LitsAt.cells h5 j u hj
      have e : (⟨b, off, none⟩ : Addr).add j = ⟨b, off + j, none⟩ := by unfold Addr.add; split <;> simp_all
      rw [e]
      exact this
    cases ad with
    | none =>
      obtain ⟨hx1, hx2⟩ := hv.nil0
      subst hx1 hx2
      refine wpList_append_own w hgd s x 29 ho w.heap.size 23 i0 _ 2 24 Try.underlying29 hi hz0 hz1 hz2 rfl (by decide) (.slice none 0 0) 0 [] hs (World.ownsRow_nil w w.heap.size _ _) ⟨b, off, none⟩ ys.length cap (flatL ys) hx (flatL_len ys) hnews (flatL_one ys) (by unfold maxLen; simp at hlen; omega) (by simp at hlen; omega) (Nat.le_refl _) (fun v' w' o1 o2 _ => ?_)
      refine h v' w' (hown_to (by simpa using o1)) ⟨o2.os, o2.tape, o2.output, o2.size, fun i hi => o2.block i hi (by simp [Value.ownBlock])⟩
    | some p =>
      obtain ⟨b0, off0, rfl⟩ := hv.plain0
      obtain ⟨n', c', h6⟩ : ∃ n' c', True := ⟨0, 0, trivial⟩
      rcases hv with ⟨h1, -⟩ | ⟨b', off', cap', h1, k2, k3, k4, k5⟩
      · cases h1
      · injection h1 with e1 e2 e3
        injection e1 with e1
        injection e1 with e1 e4
        subst e1 e2 e3 e4
        refine wpList_append_arg w hgd s x 29 ho 23 i0 _ 2 24 Try.underlying29 hi hz0 hz1 hz2 rfl (by decide) b0 off0 xs.length xs.length (flatL xs) hs (flatL_len xs) (fun j u hj => LitsAt.cells k5 j u hj) ⟨b, off, none⟩ ys.length cap (flatL ys) hx (flatL_len ys) hnews (flatL_one ys) (fun hr j hj => ?_) (by unfold maxLen; omega) (by omega) (fun hr => ?_) (fun hr v' w' o1 o2 => ?_)
        · rw [flatL_len] at hj; omega
        · have hy : ys = [] := List.eq_nil_of_length_eq_zero (by omega)
          subst hy
          have e : w.setCells b0 (off0 + xs.length * 2) (flatL []) = w := by rw [flatL_nil]; rfl
          rw [e, List.length_nil, Nat.add_zero]
          exact h _ _ (by rw [List.append_nil]; exact hvb) (Below.refl _ _)
        · refine h v' w' (hown_to (by rw [flatL_append, List.length_append]; exact o1)) ⟨o2.os, o2.tape, o2.output, o2.size, fun i hi => o2.block i hi (by simp)⟩

theorem LitsAt.tight {w : World} {a : Option Addr} {n c : Nat} {xs : List Lt} (h : LitsAt w (.slice a n c) xs) : LitsAt w (.slice a xs.length xs.length) xs := by
  rcases h with ⟨h1, rfl⟩ | ⟨b, off, cap, h1, h2, h3, h4, h5⟩
  · injection h1 with e1 e2 e3
    subst e1
    exact .inl ⟨rfl, rfl⟩
  · injection h1 with e1 e2 e3
    subst e1
    exact .inr ⟨b, off, xs.length, rfl, Nat.le_refl _, by omega, h4, h5⟩
theorem below_of_row {w w1 w2 : World} {b : Nat} (h : Below w.heap.size w w1) (hg : w1.grownBy w2 (some b)) (hB : w.heap.size ≤ b) : Below w.heap.size w w2 :=
  ⟨hg.os.trans h.os, hg.tape.trans h.tape, hg.output.trans h.output, Nat.le_trans h.size hg.size, fun i hi =>
    (hg.block i (Nat.lt_of_lt_of_le hi h.size) (fun e => by injection e with e; omega)).trans (h.block i hi)⟩

theorem namesL_len (xs : List Lt) : (namesL xs).length ≤ xs.length := by
  have h := compact_le ((xs.map nmL).mergeSort fun x y => decide (x ≤ y))
  rw [List.length_mergeSort, List.length_map] at h
  exact h

/-- A row of two literals that has just been laid. -/
theorem own_two (w : World) (g h : Bool) (s t : ByteArray) : OwnL (w.alloc (.cells #[.bool g, .string s, .bool h, .string t] 23)) w.heap.size (.slice (some ⟨w.heap.size, 0, none⟩) 2 2) [⟨g, s⟩, ⟨h, t⟩] := by
  have h1 := World.ownsRow_lit (base := w.heap.size) (e := 23) (size := 2) w #[.bool g, .string s, .bool h, .string t] 2 (Nat.le_refl _) (by unfold maxLen; omega) rfl
  unfold OwnL
  rw [flatL_eq]
  exact h1

theorem below_laid {w w' : World} {o : Obj} {v : Value} (hg : (w.alloc o).grownBy w' v.ownBlock) (hv : ∀ g, v.ownBlock = some g → w.heap.size ≤ g := by intro g e; simp [Value.ownBlock] at e; omega) : Below w.heap.size w w' :=
  ⟨hg.os, hg.tape, hg.output, Nat.le_trans (by simp) hg.size, fun i hi => (hg.block i (by simp; omega) (fun e => by have := hv i e.symm; omega)).trans (Below.heap_alloc w o i hi)⟩

theorem encStr_eq (z : List UInt8) : encStr z = .string ⟨z.toArray⟩ := rfl

theorem cells_three {w : World} {b : Nat} {x y z : Value} {t : TypeId} (h : w.heap[b]? = some (.cells #[x, y, z] t (0, 0))) : w.cell? ⟨b, 0, none⟩ = some x ∧ w.cell? ⟨b, 1, none⟩ = some y ∧ w.cell? ⟨b, 2, none⟩ = some z := ⟨by simp [World.cell?, h], by simp [World.cell?, h], by simp [World.cell?, h]⟩

/-- The row of the three lists: it lies in block p, beside the reader's block b. -/
def Row3 (w : World) (b p : Nat) : Prop := p ≠ b ∧ ∀ k : Nat, k < 3 → ∃ (ya : Option Addr) (yc : Nat) (ys : List Lt), w.cell? ⟨p, k, none⟩ = some (.slice ya ys.length yc) ∧ LitsB w b (.slice ya ys.length yc) ys ∧ Short ys ∧ ys.length ≤ 52
theorem Row3.kept {w w' : World} {b p : Nat} (h : Row3 w b p) (hg : w.grownBy w' (some b)) : Row3 w' b p := ⟨h.1, fun k hk => by
  obtain ⟨ya, yc, ys, h1, h2, h3, h4⟩ := h.2 k hk
  exact ⟨ya, yc, ys, hg.cell h1 (fun e => h.1 (Option.some.inj e)), h2.kept hg, h3, h4⟩⟩
theorem Row3.go {w w' : World} {b p : Nat} (h : Row3 w b p) (hb : Below w.heap.size w w') : Row3 w' b p := h.kept (only_of_below hb _)
theorem Row3.made {w : World} {b : Nat} {v1 v2 v3 : Value} {l1 l2 l3 : List Lt} (hb : b < w.heap.size) (h1 : LitsB w b v1 l1) (h2 : LitsB w b v2 l2) (h3 : LitsB w b v3 l3) (s1 : Short l1) (s2 : Short l2) (s3 : Short l3) (n1 : l1.length ≤ 52) (n2 : l2.length ≤ 52) (n3 : l3.length ≤ 52) :
    Row3 (w.alloc (.cells #[v1, v2, v3] 29)) b w.heap.size := by
  have hnew := heap_alloc_new w (.cells #[v1, v2, v3] 29)
  have hg : Below w.heap.size w (w.alloc (.cells #[v1, v2, v3] 29)) := (Below.refl _ _).alloc (Nat.le_refl _) _
  refine ⟨by omega, fun k hk => ?_⟩
  obtain ⟨a1, c1, rfl, -⟩ := h1.l.form
  obtain ⟨a2, c2, rfl, -⟩ := h2.l.form
  obtain ⟨a3, c3, rfl, -⟩ := h3.l.form
  obtain ⟨t0, t1, t2⟩ := cells_three hnew
  have : k = 0 ∨ k = 1 ∨ k = 2 := by omega
  rcases this with rfl | rfl | rfl
  · exact ⟨a1, c1, l1, t0, h1.go hg, s1, n1⟩
  · exact ⟨a2, c2, l2, t1, h2.go hg, s2, n2⟩
  · exact ⟨a3, c3, l3, t2, h3.go hg, s3, n3⟩

theorem short_app {xs ys : List Lt} (h : Short xs) (k : Short ys) : Short (xs ++ ys) := fun x hx => by
  rcases List.mem_append.1 hx with h1 | h1
  · exact h x h1
  · exact k x h1

set_option maxRecDepth 100000 in
set_option maxHeartbeats 4000000 in
theorem sets_walk (raw : Value) (rs : List Lt) (gx : Bool) (sx : ByteArray) (lv : Value) (zs : List Int) (w : World) (hr : LitsAt w raw rs) (hsr : Short rs) (hsx : sx.size ≤ maxLen) (hz : IntsAt w w.heap.size lv zs) :
    Calls Try.prog 5 #[raw, .agg #[.bool gx, .string sx], lv] w fun e w' => e = .returned (.bool true) ∧ Below w.heap.size w w' := by
  have HB0 : Hid (Below w.heap.size w (w.alloc (.cells #[.bool gx, .string sx] 23))) := (Below.refl _ _).alloc (Nat.le_refl _) _
  have HX0 := hidIt (heap_alloc_new w (.cells #[.bool gx, .string sx] 23))
  have HR0 := hidIt (hr.below HB0.out)
  have HZ0 : Hid (IntsAt (w.alloc (.cells #[.bool gx, .string sx] 23)) w.heap.size lv zs) := hz.kept (only_of_below HB0.out none) (fun g e => by cases e)
  have HSR := hidIt hsr
  have hsz0 : w.heap.size < (w.alloc (.cells #[.bool gx, .string sx] 23)).heap.size := by simp
  obtain ⟨ra, rc, rfl, -⟩ := hr.form
  clear hr hsr hz
  go_enter Try.func5, Try.ntmps5
  by_cases h40 : 40 < rs.length
  · go_wp2_with fail
    go_ret
    exact ⟨rfl, HB0.out⟩
  · go_wp2_with fail
    generalize (w.alloc (.cells #[.bool gx, .string sx] 23)) = w0 at *
    refine (new_any lv zs w.heap.size w0 HZ0.out (Nat.le_of_lt hsz0)).mono ?_
    rintro e w1 ⟨zs1, rfl, hs1, o1, hw1⟩
    have HS1 := hidIt hs1
    have hg1 : Below w0.heap.size w0 w1 := by rw [hw1]; exact (Below.refl _ _).alloc (Nat.le_refl _) _
    have HR1 : Hid (LitsB w1 w0.heap.size (.slice ra rs.length rc) rs) := (LitsB.of_lt HR0.out (Nat.le_refl _)).go hg1
    have HB1 := hidIt hg1
    have HX1 := hidIt (blk_kept0 HX0.out hg1)
    have hlt1 : w0.heap.size < w1.heap.size := hs1.lt
    clear hs1 hw1 hg1 HZ0 HR0
    go_wp2_with fail
    refine (slits_form 12 4 (by omega) (by omega) (by omega) _ _ zs1 0 w1 HS1.out).mono ?_
    rintro e w2 ⟨ga, gc, xs, q2, rfl, hown2, hn2, hsh2, hs2, hg2⟩
    have HS2 := hidIt hs2
    have HR2 := hidIt (HR1.out.kept hg2)
    have HG2 : Hid (LitsB w2 w0.heap.size (.slice ga xs.length gc) xs) := ⟨hown2.lits.lits, fun b' off cap hv => by
      rw [hv] at hown2
      have := (hown2.own_block b' (by simp [Value.ownBlock])).1
      omega⟩
    have HSH := hidIt (short_of hsh2)
    have hgcap := hown2.lits.lits.caps
    have HT2 : Hid (LitsB w2 w0.heap.size (.slice ga xs.length xs.length) xs) := ⟨hown2.lits.lits.tight, fun b' off cap hv => HG2.out.ne b' off gc (by injection hv with e1 e2 e3; rw [e1])⟩
    have hform2 : (ga = none ∧ xs.length = 0 ∧ gc = 0) ∨ ∃ g, ga = some ⟨g, 0, none⟩ := by
      rcases hown2.2 with ⟨h1, h2⟩ | ⟨g, cap, cur, h1, -⟩
      · injection h1 with e1 e2 e3
        exact .inl ⟨e1, h2, e3⟩
      · injection h1 with e1 e2 e3
        exact .inr ⟨g, e1⟩
    obtain ⟨hgc1, hgc2⟩ := hgcap
    unfold maxLen at hgc2
    have HBw2 : Hid (Below w.heap.size w w2) := below_of_row (HB0.out.trans (HB1.out.mono (Nat.le_of_lt hsz0))) hg2 (Nat.le_of_lt hsz0)
    have HX2 : Hid (w2.heap[w.heap.size]? = some (.cells #[.bool gx, .string sx] 23 (0, 0))) := by show _ = _; rw [hg2.block _ (lt_of_block HX1.out) (fun e => by injection e with e; omega)]; exact HX1.out
    have hsz2 : w0.heap.size < w2.heap.size := hs2.lt
    clear hs2 hg2 hown2 hsh2 HS1 HR1 HB1 HX1 HX0 HB0
    rcases hform2 with ⟨rfl, hl0, rfl⟩ | ⟨g, rfl⟩
    · obtain rfl := List.eq_nil_of_length_eq_zero hl0
      go_wp2_with (at_builtin; refine wpList_append_full rfl _ _ rfl none 0 [] rfl w0.heap.size hsz2 HT2.out _ rs rfl HR2.out.l (by simp; omega) ?_)
      intro v3 w3 hl3 hb3
      have hb3' : w0.heap.size < w3.heap.size := Nat.lt_of_lt_of_le hsz2 hb3.size
      have hrow := Row3.made hb3' (HR2.out.go hb3) (HG2.out.go hb3) hl3 HSR.out HSH.out HSR.out (by omega) (by omega) (by omega)
      obtain ⟨v3a, v3c, rfl, -⟩ := hl3.l.form
      have HROW := hidIt hrow
      have hbn : Below w2.heap.size w2 (w3.alloc (.cells #[.slice ra rs.length rc, .slice none 0 0, .slice v3a rs.length v3c] 29)) := hb3.alloc hb3.size _
      have HS4 := hidIt (HS2.out.grow (only_of_below hbn none))
      have HX4 := hidIt (blk_kept0 HX2.out hbn)
      have HB4 := hidIt (HBw2.out.trans (hbn.mono HBw2.out.size))
      clear hrow hl3 hb3 hbn HR2 HG2 HT2 HS2 HX2 HBw2
      go_wp2_with fail
      go_loopw [35] (fun i wr => ∃ k q : Nat, k ≤ 3 ∧ i = .int .i64 k ∧ Hid (SrcAt wr w.heap.size w0.heap.size zs1 q) ∧ Hid (Row3 wr w0.heap.size w3.heap.size) ∧ Hid (wr.heap[w.heap.size]? = some (.cells #[.bool gx, .string sx] 23 (0, 0))) ∧ Hid (Below w.heap.size w wr)) (fun i _ => 3 - (intOf i).toNat)
      case atStart => exact ⟨0, q2, by omega, rfl, HS4, HROW, HX4, HB4⟩
      case round =>
        clear HS4 HROW HX4 HB4
        obtain ⟨k, q, hk, rfl, hsrc, hrow, hbox, hbel⟩ := hrel
        by_cases hlt : k < 3
        · obtain ⟨ya, yc, ys, hcell, hlb, hsh, hlen⟩ := hrow.out.2 k hlt
          have HLB := hidIt hlb
          have HSY := hidIt hsh
          clear hlb hsh
          go_wp2_with fail
          refine (names_full _ ys wr HLB.out.l (by omega)).mono ?_
          rintro e w5 ⟨na, nc, rfl, hn5, hb5⟩
          rw [show nameCount ys = (namesL ys).length from rfl]
          have HN5 := hidIt hn5
          have HB5 := hidIt hb5
          have HL5 := hidIt (HLB.out.go hb5)
          clear hn5 hb5 hcell
          go_wp2_with fail
          refine (rNames_any _ ys w5 HL5.out.l (by omega)).mono ?_
          rintro e w6 ⟨ma, mc, rfl, hm6, hb6⟩
          have HN6 := hidIt (HN5.out.go hb6)
          have HM6 := hidIt hm6
          have HB6 : Hid (Below wr.heap.size wr w6) := HB5.out.trans (hb6.mono HB5.out.size)
          have HL6 := hidIt (HL5.out.go hb6)
          clear hm6 hb6 HN5 HL5 HB5
          have hNl : (namesL ys).length ≤ 52 := Nat.le_trans (namesL_len ys) hlen
          generalize namesL ys = N at *
          go_wp2_with fail
          refine (normal_form _ ys w6 HL6.out.l (by omega)).mono ?_
          rintro e w7 ⟨aa, ac, rfl, ha7, hb7⟩
          have HA7 := hidIt ha7.lits
          have HB7 : Hid (Below wr.heap.size wr w7) := HB6.out.trans (hb7.mono HB6.out.size)
          have HL7 := hidIt (HL6.out.go hb7)
          have HN7 := hidIt (HN6.out.go hb7)
          have HM7 := hidIt (HM6.out.go hb7)
          clear ha7 hb7 HN6 HM6 HL6 HB6
          go_wp2_with fail
          refine (rNormal_any _ ys w7 HL7.out.l (by omega)).mono ?_
          rintro e w8 ⟨bv, rfl, hbv8, hb8⟩
          have HV8 := hidIt hbv8
          have HA8 := hidIt (HA7.out.below hb8)
          have HB8 : Hid (Below wr.heap.size wr w8) := HB7.out.trans (hb8.mono HB7.out.size)
          have HL8 := hidIt (HL7.out.go hb8)
          have HN8 := hidIt (HN7.out.go hb8)
          have HM8 := hidIt (HM7.out.go hb8)
          have hnl : (nrm ys).length ≤ 1000000 := Nat.le_trans (nrm_len ys) (by omega)
          clear hbv8 hb8 HN7 HM7 HL7 HB7 HA7
          go_wp2_with fail
          refine (same_true _ _ (nrm ys) w8 HA8.out HV8.out hnl).mono ?_
          rintro e w9 ⟨rfl, hb9⟩
          have HB9 : Hid (Below wr.heap.size wr w9) := HB8.out.trans (hb9.mono HB8.out.size)
          have HL9 := hidIt (HL8.out.go hb9)
          have HN9 := hidIt (HN8.out.go hb9)
          have HM9 := hidIt (HM8.out.go hb9)
          clear hb9 HN8 HM8 HL8 HB8 HA8 HV8 hnl
          go_wp2_with fail
          refine (consistent_any _ ys w9 HL9.out.l (by omega) HSY.out).mono ?_
          rintro e w10 ⟨rfl, hb10⟩
          have HB10 : Hid (Below wr.heap.size wr w10) := HB9.out.trans (hb10.mono HB9.out.size)
          have HL10 := hidIt (HL9.out.go hb10)
          have HN10 := hidIt (HN9.out.go hb10)
          have HM10 := hidIt (HM9.out.go hb10)
          clear hb10 HN9 HM9 HL9 HB9
          go_wp2_with fail
          refine (rConsistent_any _ ys w10 HL10.out.l (by omega)).mono ?_
          rintro e w11 ⟨rfl, hb11⟩
          have HB11 : Hid (Below wr.heap.size wr w11) := HB10.out.trans (hb11.mono HB10.out.size)
          have HL11 := hidIt (HL10.out.go hb11)
          have HN11 := hidIt (HN10.out.go hb11)
          have HM11 := hidIt (HM10.out.go hb11)
          clear hb11 HN10 HM10 HL10 HB10
          generalize consB ys = cb at *
          have hcb : (cb != cb) = false := bne_self_eq_false cb
          go_wp2_with fail
          go_loopw [65] (fun i wq => ∃ j n : Nat, j ≤ N.length ∧ i = .int .i64 j ∧ wq = w11.drewN n) (fun i _ => N.length - (intOf i).toNat)
          case atStart => exact ⟨0, 0, Nat.zero_le _, rfl, rfl⟩
          case round =>
            obtain ⟨j, n, hj, rfl, rfl⟩ := hrel
            by_cases hjl : j < N.length
            · obtain ⟨b1, o1, rfl, -, c1⟩ := HN11.out j hjl
              obtain ⟨b2, o2, rfl, -, c2⟩ := HM11.out j hjl
              rw [encStr_eq] at c1 c2
              generalize (⟨(N[j]).toArray⟩ : ByteArray) = st at c1 c2
              have heq : (st.toList == st.toList) = true := beq_self_eq_true _
              go_wp2_with fail
              go_quiet (fail)
              go_wp2_with fail
              go_roundw
              case rel => exact ⟨j + 1, _, by omega, by go_num, rfl⟩
              case measure => simp [intOf]; omega
            · have HB12 : Hid (Below wr.heap.size wr (w11.drewN n)) := below_drew HB11.out n
              have HS12 := hidIt (hsrc.out.grow (only_of_below HB12.out none))
              have HX12 := hidIt (blk_kept0 hbox.out HB12.out)
              have HR12 := hidIt (hrow.out.go HB12.out)
              have HL12 := hidIt (HLB.out.go HB12.out)
              have HT12 : Hid (Below w.heap.size w (w11.drewN n)) := hbel.out.trans (HB12.out.mono hbel.out.size)
              clear HN11 HM11 HL11 HB11 hsrc hbox hrow HLB hbel HB12
              generalize w11.drewN n = w12 at *
              have hx0 := cell_two0 HX12.out
              have hx1 := cell_two1 HX12.out
              go_wp2_with fail
              have HO13 : ∀ (gz : Bool) (mz : Nat) (W : World), OwnL (W.alloc (.cells #[.bool gx, .string sx, .bool gz, .string (letter mz)] 23)) W.heap.size (.slice (some ⟨W.heap.size, 0, none⟩) 2 2) [⟨gx, sx⟩, ⟨gz, letter mz⟩] := fun gz mz W => own_two W _ _ _ _
              have HO13' := hidIt HO13
              clear HO13
              go_region_law (first
                | (refine step_append_lits (by rfl) (.tmp 81) (.tmp 82) (by rfl) w13.heap.size _ [⟨gx, sx⟩, ⟨gz, letter mz⟩] (by rfl) (HO13'.out gz mz w13) _ ys (by rfl) (HL13.out.l.below ((Below.refl _ _).alloc (Nat.le_refl _) _)) (by simp; omega) (by simp) ?_
                   intro v14 w14 ho14 hg14
                   obtain ⟨za, zc, rfl, -⟩ := ho14.form
                   have hlen14 : ([⟨gx, sx⟩, ⟨gz, letter mz⟩] ++ ys : List Lt).length = ys.length + 1 + 1 := by simp)
                | (go_simp
                   go_at_call 11
                   refine (slit_any (4 : Int) (by omega) (by omega) w.heap.size w0.heap.size zs1 q _ (HS12.out.grow (only_of_below (below_drew (Below.refl _ _) 1) none))).mono ?_
                   rintro e w13 ⟨gz, mz, q3, rfl, hmz, hs13, hg13⟩
                   have HS13 := hidIt hs13
                   have HG13 := hidIt hg13
                   have HL13 : Hid (LitsB w13 w0.heap.size (.slice ya ys.length yc) ys) := (HL12.out.go (below_drew (Below.refl _ _) 1)).kept hg13
                   have HX13 : Hid (w13.heap[w.heap.size]? = some (.cells #[.bool gx, .string sx] 23 (0, 0))) := by show _ = _; rw [hg13.block _ (lt_of_block HX12.out) (fun e => by injection e with e; omega)]; exact HX12.out
                   have hx0' := cell_two0 HX13.out
                   have hx1' := cell_two1 HX13.out))
              all_goals
                have hB14 : Below w13.heap.size w13 w14 := below_laid hg14
                have HS14 := hidIt (HS13.out.grow (only_of_below hB14 none))
                have HR14 : Hid (Row3 w14 w0.heap.size w3.heap.size) := ((HR12.out.go (below_drew (Below.refl _ _) 1)).kept HG13.out).go hB14
                have HX14 := hidIt (blk_kept0 HX13.out hB14)
                have HL14 := hidIt (HL13.out.go hB14)
                have HT13 : Below w.heap.size w w13 := below_of_row (below_drew HT12.out 1) HG13.out (Nat.le_of_lt hsz0)
                have HT14 : Hid (Below w.heap.size w w14) := HT13.trans (hB14.mono HT13.size)
                have HZ14 := hidIt ho14.lits.lits
                clear hB14 HT13 ho14 hg14 HS13 HG13 HL13 HX13 hx0' hx1' HS12 HX12 HR12 HL12 HT12 hx0 hx1 hs13 hg13 HO13'
                rw [hlen14] at HZ14
                have HLEN := hidIt hlen14
                clear hlen14
                simp only [Act.put, List.getElem_toArray, List.getElem_cons_succ, List.getElem_cons_zero, List.setIfInBounds_toArray, List.set_cons_zero, List.set_cons_succ]
                go_wp2_with fail
                go_loopw [85] (fun i wq => ∃ m : Nat, m ≤ ys.length + 1 + 1 ∧ i = .int .i64 m ∧ Hid (Below w14.heap.size w14 wq)) (fun i _ => ys.length + 1 + 1 - (intOf i).toNat)
                case atStart => exact ⟨0, Nat.zero_le _, rfl, Below.refl _ _⟩
                case round =>
                  obtain ⟨m, hm, rfl, hbq⟩ := hrel
                  by_cases hml : m < ys.length + 1 + 1
                  · obtain ⟨az, cz, e, kz⟩ := (HZ14.out.below hbq.out).form
                    obtain ⟨bz, oz, hza, z0, z1⟩ := kz m (by rw [HLEN.out]; exact hml)
                    injection e with e1 e2 e3
                    subst e1
                    subst hza
                    clear kz e2 e3
                    generalize ([⟨gx, sx⟩, ⟨gz, letter mz⟩] ++ ys : List Lt)[m]! = z at z0 z1
                    obtain ⟨g2, s2⟩ := z
                    simp only at z0 z1
                    go_wp2_with fail
                    have HLq := hidIt ((HL14.out.go hbq.out).go ((Below.refl wr.heap.size wr).alloc (Nat.le_refl _) (.cells #[.bool g2, .string s2] 23)))
                    have hbx : Below wr.heap.size wr (wr.alloc (.cells #[.bool g2, .string s2] 23)) := (Below.refl _ _).alloc (Nat.le_refl _) _
                    have HBX := hidIt hbx
                    have hc0 := cell_two0 (heap_alloc_new wr (.cells #[.bool g2, .string s2] 23))
                    have hc1 := cell_two1 (heap_alloc_new wr (.cells #[.bool g2, .string s2] 23))
                    have HC1 := hidIt (fun (W : World) (h : LitsB W w0.heap.size (.slice ya ys.length yc) ys) => has_any _ ys g2 s2 W h.l (by omega))
                    have HC2 := hidIt (fun (W : World) (h : LitsB W w0.heap.size (.slice ya ys.length yc) ys) => rHas_any _ ys ⟨g2, s2⟩ W h.l (by omega))
                    clear hbx
                    generalize hdb : decide ((⟨g2, s2⟩ : Lt) ∈ ys) = db at HC1 HC2
                    have hdd : (db != db) = false := bne_self_eq_false db
                    generalize (wr.alloc (.cells #[.bool g2, .string s2] 23)) = W at *
                    have K0 := fun y => Ext.cell hc0 y
                    have K1 := fun y => Ext.cell hc1 y
                    clear hc0 hc1 hdb z0 z1
                    haveI := Ext.nonempty W
                    refine wp_region_in (Ext W) (by kernel_rfl) (by kernel_rfl) (Ext.start W) ?_
                    repeat (go_big_quiet_step (first
                      | (with_reducible (refine Ext.call (HC1.out _ (LitsB.go HLq.out (In.h _)))))
                      | (with_reducible (refine Ext.call (HC2.out _ (LitsB.go HLq.out (In.h _)))))))
                    refine wpQuiet_nil ?_
                    rintro w16 ⟨⟨_, h16⟩, rfl⟩
                    have HB16 : Hid (Below w14.heap.size w14 w16) := (hbq.out.trans (HBX.out.mono hbq.out.size)).trans (Below.mono h16 (Nat.le_trans hbq.out.size HBX.out.size))
                    clear h16 K0 K1
                    go_wp2_with fail
                    go_roundw
                    case rel => exact ⟨m + 1, by omega, by go_num, HB16⟩
                    case measure => simp [intOf]; omega
                  · go_wp2_with fail
                    go_roundw
                    case rel => exact ⟨k + 1, q3, by omega, by go_num, HS14.out.grow (only_of_below hbq.out none), HR14.out.go hbq.out, blk_kept0 HX14.out hbq.out, HT14.out.trans (hbq.out.mono HT14.out.size)⟩
                    case measure => simp [intOf]; omega
        · go_wp2_with fail
          refine (awake_any wr).mono ?_
          rintro e w7 ⟨rfl, hb7⟩
          have HB7 := hidIt (hbel.out.trans (hb7.mono hbel.out.size))
          clear hb7
          go_wp2_with fail
          go_ret
          exact ⟨rfl, HB7.out⟩
    · go_wp2_with (at_builtin; refine wpList_append_full rfl _ _ rfl _ xs.length xs rfl w0.heap.size hsz2 HT2.out _ rs rfl HR2.out.l (by omega) ?_)
      intro v3 w3 hl3 hb3
      have hb3' : w0.heap.size < w3.heap.size := Nat.lt_of_lt_of_le hsz2 hb3.size
      have hrow := Row3.made hb3' (HR2.out.go hb3) (HG2.out.go hb3) hl3 HSR.out HSH.out (short_app HSH.out HSR.out) (by omega) (by omega) (by rw [List.length_append]; omega)
      obtain ⟨v3a, v3c, rfl, -⟩ := hl3.l.form
      generalize (xs ++ rs).length = n3 at *
      have HROW := hidIt hrow
      have hbn : Below w2.heap.size w2 (w3.alloc (.cells #[.slice ra rs.length rc, .slice (some ⟨g, 0, none⟩) xs.length gc, .slice v3a n3 v3c] 29)) := hb3.alloc hb3.size _
      have HS4 := hidIt (HS2.out.grow (only_of_below hbn none))
      have HX4 := hidIt (blk_kept0 HX2.out hbn)
      have HB4 := hidIt (HBw2.out.trans (hbn.mono HBw2.out.size))
      clear hrow hl3 hb3 hbn HR2 HG2 HT2 HS2 HX2 HBw2
      go_wp2_with fail
      go_loopw [35] (fun i wr => ∃ k q : Nat, k ≤ 3 ∧ i = .int .i64 k ∧ Hid (SrcAt wr w.heap.size w0.heap.size zs1 q) ∧ Hid (Row3 wr w0.heap.size w3.heap.size) ∧ Hid (wr.heap[w.heap.size]? = some (.cells #[.bool gx, .string sx] 23 (0, 0))) ∧ Hid (Below w.heap.size w wr)) (fun i _ => 3 - (intOf i).toNat)
      case atStart => exact ⟨0, q2, by omega, rfl, HS4, HROW, HX4, HB4⟩
      case round =>
        clear HS4 HROW HX4 HB4
        obtain ⟨k, q, hk, rfl, hsrc, hrow, hbox, hbel⟩ := hrel
        by_cases hlt : k < 3
        · obtain ⟨ya, yc, ys, hcell, hlb, hsh, hlen⟩ := hrow.out.2 k hlt
          have HLB := hidIt hlb
          have HSY := hidIt hsh
          clear hlb hsh
          go_wp2_with fail
          refine (names_full _ ys wr HLB.out.l (by omega)).mono ?_
          rintro e w5 ⟨na, nc, rfl, hn5, hb5⟩
          rw [show nameCount ys = (namesL ys).length from rfl]
          have HN5 := hidIt hn5
          have HB5 := hidIt hb5
          have HL5 := hidIt (HLB.out.go hb5)
          clear hn5 hb5 hcell
          go_wp2_with fail
          refine (rNames_any _ ys w5 HL5.out.l (by omega)).mono ?_
          rintro e w6 ⟨ma, mc, rfl, hm6, hb6⟩
          have HN6 := hidIt (HN5.out.go hb6)
          have HM6 := hidIt hm6
          have HB6 : Hid (Below wr.heap.size wr w6) := HB5.out.trans (hb6.mono HB5.out.size)
          have HL6 := hidIt (HL5.out.go hb6)
          clear hm6 hb6 HN5 HL5 HB5
          have hNl : (namesL ys).length ≤ 52 := Nat.le_trans (namesL_len ys) hlen
          generalize namesL ys = N at *
          go_wp2_with fail
          refine (normal_form _ ys w6 HL6.out.l (by omega)).mono ?_
          rintro e w7 ⟨aa, ac, rfl, ha7, hb7⟩
          have HA7 := hidIt ha7.lits
          have HB7 : Hid (Below wr.heap.size wr w7) := HB6.out.trans (hb7.mono HB6.out.size)
          have HL7 := hidIt (HL6.out.go hb7)
          have HN7 := hidIt (HN6.out.go hb7)
          have HM7 := hidIt (HM6.out.go hb7)
          clear ha7 hb7 HN6 HM6 HL6 HB6
          go_wp2_with fail
          refine (rNormal_any _ ys w7 HL7.out.l (by omega)).mono ?_
          rintro e w8 ⟨bv, rfl, hbv8, hb8⟩
          have HV8 := hidIt hbv8
          have HA8 := hidIt (HA7.out.below hb8)
          have HB8 : Hid (Below wr.heap.size wr w8) := HB7.out.trans (hb8.mono HB7.out.size)
          have HL8 := hidIt (HL7.out.go hb8)
          have HN8 := hidIt (HN7.out.go hb8)
          have HM8 := hidIt (HM7.out.go hb8)
          have hnl : (nrm ys).length ≤ 1000000 := Nat.le_trans (nrm_len ys) (by omega)
          clear hbv8 hb8 HN7 HM7 HL7 HB7 HA7
          go_wp2_with fail
          refine (same_true _ _ (nrm ys) w8 HA8.out HV8.out hnl).mono ?_
          rintro e w9 ⟨rfl, hb9⟩
          have HB9 : Hid (Below wr.heap.size wr w9) := HB8.out.trans (hb9.mono HB8.out.size)
          have HL9 := hidIt (HL8.out.go hb9)
          have HN9 := hidIt (HN8.out.go hb9)
          have HM9 := hidIt (HM8.out.go hb9)
          clear hb9 HN8 HM8 HL8 HB8 HA8 HV8 hnl
          go_wp2_with fail
          refine (consistent_any _ ys w9 HL9.out.l (by omega) HSY.out).mono ?_
          rintro e w10 ⟨rfl, hb10⟩
          have HB10 : Hid (Below wr.heap.size wr w10) := HB9.out.trans (hb10.mono HB9.out.size)
          have HL10 := hidIt (HL9.out.go hb10)
          have HN10 := hidIt (HN9.out.go hb10)
          have HM10 := hidIt (HM9.out.go hb10)
          clear hb10 HN9 HM9 HL9 HB9
          go_wp2_with fail
          refine (rConsistent_any _ ys w10 HL10.out.l (by omega)).mono ?_
          rintro e w11 ⟨rfl, hb11⟩
          have HB11 : Hid (Below wr.heap.size wr w11) := HB10.out.trans (hb11.mono HB10.out.size)
          have HL11 := hidIt (HL10.out.go hb11)
          have HN11 := hidIt (HN10.out.go hb11)
          have HM11 := hidIt (HM10.out.go hb11)
          clear hb11 HN10 HM10 HL10 HB10
          generalize consB ys = cb at *
          have hcb : (cb != cb) = false := bne_self_eq_false cb
          go_wp2_with fail
          go_loopw [65] (fun i wq => ∃ j n : Nat, j ≤ N.length ∧ i = .int .i64 j ∧ wq = w11.drewN n) (fun i _ => N.length - (intOf i).toNat)
          case atStart => exact ⟨0, 0, Nat.zero_le _, rfl, rfl⟩
          case round =>
            obtain ⟨j, n, hj, rfl, rfl⟩ := hrel
            by_cases hjl : j < N.length
            · obtain ⟨b1, o1, rfl, -, c1⟩ := HN11.out j hjl
              obtain ⟨b2, o2, rfl, -, c2⟩ := HM11.out j hjl
              rw [encStr_eq] at c1 c2
              generalize (⟨(N[j]).toArray⟩ : ByteArray) = st at c1 c2
              have heq : (st.toList == st.toList) = true := beq_self_eq_true _
              go_wp2_with fail
              go_quiet (fail)
              go_wp2_with fail
              go_roundw
              case rel => exact ⟨j + 1, _, by omega, by go_num, rfl⟩
              case measure => simp [intOf]; omega
            · have HB12 : Hid (Below wr.heap.size wr (w11.drewN n)) := below_drew HB11.out n
              have HS12 := hidIt (hsrc.out.grow (only_of_below HB12.out none))
              have HX12 := hidIt (blk_kept0 hbox.out HB12.out)
              have HR12 := hidIt (hrow.out.go HB12.out)
              have HL12 := hidIt (HLB.out.go HB12.out)
              have HT12 : Hid (Below w.heap.size w (w11.drewN n)) := hbel.out.trans (HB12.out.mono hbel.out.size)
              clear HN11 HM11 HL11 HB11 hsrc hbox hrow HLB hbel HB12
              generalize w11.drewN n = w12 at *
              have hx0 := cell_two0 HX12.out
              have hx1 := cell_two1 HX12.out
              go_wp2_with fail
              have HO13 : ∀ (gz : Bool) (mz : Nat) (W : World), OwnL (W.alloc (.cells #[.bool gx, .string sx, .bool gz, .string (letter mz)] 23)) W.heap.size (.slice (some ⟨W.heap.size, 0, none⟩) 2 2) [⟨gx, sx⟩, ⟨gz, letter mz⟩] := fun gz mz W => own_two W _ _ _ _
              have HO13' := hidIt HO13
              clear HO13
              go_region_law (first
                | (refine step_append_lits (by rfl) (.tmp 81) (.tmp 82) (by rfl) w13.heap.size _ [⟨gx, sx⟩, ⟨gz, letter mz⟩] (by rfl) (HO13'.out gz mz w13) _ ys (by rfl) (HL13.out.l.below ((Below.refl _ _).alloc (Nat.le_refl _) _)) (by simp; omega) (by simp) ?_
                   intro v14 w14 ho14 hg14
                   obtain ⟨za, zc, rfl, -⟩ := ho14.form
                   have hlen14 : ([⟨gx, sx⟩, ⟨gz, letter mz⟩] ++ ys : List Lt).length = ys.length + 1 + 1 := by simp)
                | (go_simp
                   go_at_call 11
                   refine (slit_any (4 : Int) (by omega) (by omega) w.heap.size w0.heap.size zs1 q _ (HS12.out.grow (only_of_below (below_drew (Below.refl _ _) 1) none))).mono ?_
                   rintro e w13 ⟨gz, mz, q3, rfl, hmz, hs13, hg13⟩
                   have HS13 := hidIt hs13
                   have HG13 := hidIt hg13
                   have HL13 : Hid (LitsB w13 w0.heap.size (.slice ya ys.length yc) ys) := (HL12.out.go (below_drew (Below.refl _ _) 1)).kept hg13
                   have HX13 : Hid (w13.heap[w.heap.size]? = some (.cells #[.bool gx, .string sx] 23 (0, 0))) := by show _ = _; rw [hg13.block _ (lt_of_block HX12.out) (fun e => by injection e with e; omega)]; exact HX12.out
                   have hx0' := cell_two0 HX13.out
                   have hx1' := cell_two1 HX13.out))
              all_goals
                have hB14 : Below w13.heap.size w13 w14 := below_laid hg14
                have HS14 := hidIt (HS13.out.grow (only_of_below hB14 none))
                have HR14 : Hid (Row3 w14 w0.heap.size w3.heap.size) := ((HR12.out.go (below_drew (Below.refl _ _) 1)).kept HG13.out).go hB14
                have HX14 := hidIt (blk_kept0 HX13.out hB14)
                have HL14 := hidIt (HL13.out.go hB14)
                have HT13 : Below w.heap.size w w13 := below_of_row (below_drew HT12.out 1) HG13.out (Nat.le_of_lt hsz0)
                have HT14 : Hid (Below w.heap.size w w14) := HT13.trans (hB14.mono HT13.size)
                have HZ14 := hidIt ho14.lits.lits
                clear hB14 HT13 ho14 hg14 HS13 HG13 HL13 HX13 hx0' hx1' HS12 HX12 HR12 HL12 HT12 hx0 hx1 hs13 hg13 HO13'
                rw [hlen14] at HZ14
                have HLEN := hidIt hlen14
                clear hlen14
                simp only [Act.put, List.getElem_toArray, List.getElem_cons_succ, List.getElem_cons_zero, List.setIfInBounds_toArray, List.set_cons_zero, List.set_cons_succ]
                go_wp2_with fail
                go_loopw [85] (fun i wq => ∃ m : Nat, m ≤ ys.length + 1 + 1 ∧ i = .int .i64 m ∧ Hid (Below w14.heap.size w14 wq)) (fun i _ => ys.length + 1 + 1 - (intOf i).toNat)
                case atStart => exact ⟨0, Nat.zero_le _, rfl, Below.refl _ _⟩
                case round =>
                  obtain ⟨m, hm, rfl, hbq⟩ := hrel
                  by_cases hml : m < ys.length + 1 + 1
                  · obtain ⟨az, cz, e, kz⟩ := (HZ14.out.below hbq.out).form
                    obtain ⟨bz, oz, hza, z0, z1⟩ := kz m (by rw [HLEN.out]; exact hml)
                    injection e with e1 e2 e3
                    subst e1
                    subst hza
                    clear kz e2 e3
                    generalize ([⟨gx, sx⟩, ⟨gz, letter mz⟩] ++ ys : List Lt)[m]! = z at z0 z1
                    obtain ⟨g2, s2⟩ := z
                    simp only at z0 z1
                    go_wp2_with fail
                    have HLq := hidIt ((HL14.out.go hbq.out).go ((Below.refl wr.heap.size wr).alloc (Nat.le_refl _) (.cells #[.bool g2, .string s2] 23)))
                    have hbx : Below wr.heap.size wr (wr.alloc (.cells #[.bool g2, .string s2] 23)) := (Below.refl _ _).alloc (Nat.le_refl _) _
                    have HBX := hidIt hbx
                    have hc0 := cell_two0 (heap_alloc_new wr (.cells #[.bool g2, .string s2] 23))
                    have hc1 := cell_two1 (heap_alloc_new wr (.cells #[.bool g2, .string s2] 23))
                    have HC1 := hidIt (fun (W : World) (h : LitsB W w0.heap.size (.slice ya ys.length yc) ys) => has_any _ ys g2 s2 W h.l (by omega))
                    have HC2 := hidIt (fun (W : World) (h : LitsB W w0.heap.size (.slice ya ys.length yc) ys) => rHas_any _ ys ⟨g2, s2⟩ W h.l (by omega))
                    clear hbx
                    generalize hdb : decide ((⟨g2, s2⟩ : Lt) ∈ ys) = db at HC1 HC2
                    have hdd : (db != db) = false := bne_self_eq_false db
                    generalize (wr.alloc (.cells #[.bool g2, .string s2] 23)) = W at *
                    have K0 := fun y => Ext.cell hc0 y
                    have K1 := fun y => Ext.cell hc1 y
                    clear hc0 hc1 hdb z0 z1
                    haveI := Ext.nonempty W
                    refine wp_region_in (Ext W) (by kernel_rfl) (by kernel_rfl) (Ext.start W) ?_
                    repeat (go_big_quiet_step (first
                      | (with_reducible (refine Ext.call (HC1.out _ (LitsB.go HLq.out (In.h _)))))
                      | (with_reducible (refine Ext.call (HC2.out _ (LitsB.go HLq.out (In.h _)))))))
                    refine wpQuiet_nil ?_
                    rintro w16 ⟨⟨_, h16⟩, rfl⟩
                    have HB16 : Hid (Below w14.heap.size w14 w16) := (hbq.out.trans (HBX.out.mono hbq.out.size)).trans (Below.mono h16 (Nat.le_trans hbq.out.size HBX.out.size))
                    clear h16 K0 K1
                    go_wp2_with fail
                    go_roundw
                    case rel => exact ⟨m + 1, by omega, by go_num, HB16⟩
                    case measure => simp [intOf]; omega
                  · go_wp2_with fail
                    go_roundw
                    case rel => exact ⟨k + 1, q3, by omega, by go_num, HS14.out.grow (only_of_below hbq.out none), HR14.out.go hbq.out, blk_kept0 HX14.out hbq.out, HT14.out.trans (hbq.out.mono HT14.out.size)⟩
                    case measure => simp [intOf]; omega
        · go_wp2_with fail
          refine (awake_any wr).mono ?_
          rintro e w7 ⟨rfl, hb7⟩
          have HB7 := hidIt (hbel.out.trans (hb7.mono hbel.out.size))
          clear hb7
          go_wp2_with fail
          go_ret
          exact ⟨rfl, HB7.out⟩
end Go.Proofs.Ytbldlngblmegfaa
