/- What the search has found: an owned row; add. The search itself: descend. The labels that a state of the search stands for, as a list. slices.SortFunc of lists of labels, by labelling.Compare. The search, run: the lists of labels that it has found, in order. -/
import Derived.Test.YtfiaoibfejginaaDoorZ4O
import Derived.Deep.RegionLaw
import Derived.Test.YtfiaoibfejginaaDoorZ4B
import Derived.Test.YtfiaoibfejginaaDoorShelf2
import Derived.Test.YtfiaoibfejginaaDoorG1Dl

namespace Go.Proofs.YtfiaoibfejginaaDoor
set_option linter.unusedVariables false
set_option linter.unusedSimpArgs false
open Go Go.RowKit Go.Sort

def encC (c : Cn) : List Value := [.int .u64 0, bv c.i, bv c.o, bv c.u]
theorem infoLb : (Tryd.prog.info? 57).map (fun i => (i.zero, i.size, i.bytes)) = some (some (.agg #[.int .u64 0, .int .u64 0, .int .u64 0, .int .u64 0]), 4, 32) := by kernel_rfl
theorem elemLb : ElemOf 59 57 4 32 := elem_of Tryd.underlying59 infoLb rfl (by decide) (by decide)
/-- What was found: a row of the call's own. -/
def FsW (w : World) (P : Nat) (vf : Value) (fs : List Cn) : Prop := w.ownsRow (P + 1) 57 4 vf fs.length (fs.flatMap encC)
theorem FsW.nil (w : World) (P : Nat) : FsW w P (.slice none 0 0) [] := World.ownsRow_nil ..
/-- What a step of the search keeps: all blocks but the state's and the row's. -/
structure Kp (P : Nat) (vf vf' : Value) (w w' : World) : Prop where
  os : w'.os = w.os
  tape : w'.tape = w.tape
  output : w'.output = w.output
  size : w.heap.size ≤ w'.heap.size
  block : ∀ k, k < w.heap.size → k ≠ P → vf.ownBlock ≠ some k → w'.heap[k]? = w.heap[k]?
  own : vf'.ownBlock = vf.ownBlock ∨ ∃ g, vf'.ownBlock = some g ∧ w.heap.size ≤ g
theorem Kp.of {P : Nat} {vf : Value} {w w' : World} (h : ButP P w w') : Kp P vf vf w w' := ⟨h.os, h.tape, h.output, h.size, fun k hk h1 _ => h.block k hk h1, .inl rfl⟩
theorem Kp.trans {P : Nat} {v v' v'' : Value} {w w' w'' : World} (h : Kp P v v' w w') (h' : Kp P v' v'' w' w'') : Kp P v v'' w w'' := by
  refine ⟨h'.os.trans h.os, h'.tape.trans h.tape, h'.output.trans h.output, Nat.le_trans h.size h'.size, fun k hk h1 h2 => ?_, ?_⟩
  · refine (h'.block k (Nat.lt_of_lt_of_le hk h.size) h1 fun e => ?_).trans (h.block k hk h1 h2)
    rcases h.own with e1 | ⟨g, e1, hg⟩
    · exact h2 (e1.symm.trans e)
    · rw [e1] at e
      injection e with e
      omega
  · rcases h'.own with e | ⟨g, e, hg⟩
    · rw [e]; exact h.own
    · exact .inr ⟨g, e, Nat.le_trans h.size hg⟩
theorem FsW.but {P : Nat} {vf : Value} {fs : List Cn} {w w' : World} (h : FsW w P vf fs) (hb : ButP P w w') : FsW w' P vf fs := owns_kept h fun g e => by
  obtain ⟨h1, h2⟩ := owns_blk h g e
  exact hb.block g h2 (by omega)
theorem Kp.below {P B : Nat} {vf vf' : Value} {fs : List Cn} {w w' : World} (h : Kp P vf vf' w w') (hf : FsW w P vf fs) (hB : B ≤ P) (hs : B ≤ w.heap.size) : Below B w w' :=
  ⟨h.os, h.tape, h.output, h.size, fun k hk => h.block k (Nat.lt_of_lt_of_le hk hs) (by omega) fun e => by have := (owns_blk hf k e).1; omega⟩
theorem encC_one (c : Cn) : ∀ u ∈ encC c, u.oneCell' = true := by
  intro u hu
  simp [encC] at hu
  rcases hu with rfl | rfl | rfl | rfl <;> rfl

set_option maxRecDepth 100000 in
set_option maxHeartbeats 2000000 in
theorem sAdd_full (P : Nat) (n : BitVec 64) (A : Nat → BitVec 64) (c : Cn) (vf : Value) (fs : List Cn) (t : Bool) (w : World) (h : SrW w P n A c vf t) (hf : FsW w P vf fs) (hl : fs.length = 200) :
    Calls Tryd.prog 65 #[.pointer (some ⟨P, 0, none⟩)] w fun e w' => e = .returned (.tuple #[]) ∧ SrW w' P n A c vf true ∧ ButP P w w' := by
  have H := hidIt h
  obtain ⟨a, cc, rfl, -, -⟩ := shape_own hf
  have cf := h.cf
  have lP := h.lt
  have f6 := h.free 46
  have hlI : (fs.length : Int) = 200 := by omega
  have ct := h.ct
  clear h hf
  go_enter Tryd.func65, Tryd.ntmps65
  go_wp2_with fail
  first | go_end0 | ((try simp only [Exit.inBlock, Exit.then]); refine bodyPost_ret (results_none rfl _ _ _) rfl ?_)
  exact ⟨rfl, H.out.setT true, (ButP.refl P w).set 46 _⟩

set_option maxRecDepth 100000 in
set_option maxHeartbeats 2000000 in
theorem sAdd_more (P : Nat) (n : BitVec 64) (A : Nat → BitVec 64) (c : Cn) (vf : Value) (fs : List Cn) (t : Bool) (w : World) (h : SrW w P n A c vf t) (hf : FsW w P vf fs) (hl : fs.length < 200) :
    Calls Tryd.prog 65 #[.pointer (some ⟨P, 0, none⟩)] w fun e w' => ∃ vf', e = .returned (.tuple #[]) ∧ SrW w' P n A c vf' t ∧ FsW w' P vf' (fs ++ [c]) ∧ Kp P vf vf' w w' := by
  have H := hidIt h
  have HF := hidIt hf
  obtain ⟨a, cc, rfl, -, -⟩ := shape_own hf
  have cf := h.cf
  have c0 := h.c0
  have c1 := h.c1
  have c2 := h.c2
  have c3 := h.c3
  have lP := h.lt
  have f5 := h.free 45
  have hlI : ¬ (fs.length : Int) = 200 := by omega
  clear h hf
  go_enter Tryd.func65, Tryd.ntmps65
  go_upto_region 2 with (fail)
  have hsz : (w.alloc (.cells #[.int .u64 0, bv c.i, bv c.o, bv c.u] 57)).drew.heap.size = w.heap.size + 1 := World.size_alloc ..
  have HO1 : Hid (World.ownsRow (w.alloc (.cells #[.int .u64 0, bv c.i, bv c.o, bv c.u] 57)).drew (P + 1) 57 4 (.slice a fs.length cc) fs.length (fs.flatMap encC)) := World.ownsRow.alloc HF.out _
  have HM1 : Hid ((w.alloc (.cells #[.int .u64 0, bv c.i, bv c.o, bv c.u] 57)).drew.heap[w.heap.size]? = some (.cells #[.int .u64 0, bv c.i, bv c.o, bv c.u] 57 (0, 0))) := heap_alloc_new w _
  have HS1 : Hid (P + 1 ≤ (w.alloc (.cells #[.int .u64 0, bv c.i, bv c.o, bv c.u] 57)).drew.heap.size) := by show _ ≤ _; omega
  have HD1 : Hid (SrW (w.alloc (.cells #[.int .u64 0, bv c.i, bv c.o, bv c.u] 57)).drew P n A c (.slice a fs.length cc) t) := by
    have := H.out.go (bgrow w (.cells #[.int .u64 0, bv c.i, bv c.o, bv c.u] 57))
    exact this
  have HB1 : Hid (ButP P w (w.alloc (.cells #[.int .u64 0, bv c.i, bv c.o, bv c.u] 57)).drew) := (ButP.of (bgrow w _)).drew
  clear hsz
  go_region_law (first
    | (refine step_append_one rfl (.tmp 15) (.tmp 20) elemLb rfl (P + 1) (.slice a fs.length cc) fs.length _ ?_ HO1.out w.heap.size 1 ?_ #[.int .u64 0, bv c.i, bv c.o, bv c.u] 57 HM1.out rfl (one_of (by rfl)) ?_ HS1.out ?_
       · go_simp
       · go_simp
       · omega
       intro v8 w8 hown8 hg8 hbl8
       obtain ⟨g8, c8, rfl, hPg⟩ := owns_slice hown8
       have l8 : P < w8.heap.size := Nat.lt_of_lt_of_le HS1.out hg8.size
       have HD8 : Hid (SrW w8 P n A c (.slice a fs.length cc) t) := (hg8.block P HS1.out (fun e => by have := (owns_blk HO1.out P e.symm).1; omega)).trans HD1.out
       have f8 := HD8.out.free 45
       have cf8 := HD8.out.cf))
  all_goals (
    go_simp
    have HF8 : Hid (FsW (w8.setCell ⟨P, 45, none⟩ (.slice (some ⟨g8, 0, none⟩) (fs.length + 1) c8)) P (.slice (some ⟨g8, 0, none⟩) (fs.length + 1) c8) (fs ++ [c])) := by
      have hk : World.ownsRow (w8.setCell ⟨P, 45, none⟩ (.slice (some ⟨g8, 0, none⟩) (fs.length + 1) c8)) (P + 1) 57 4 (.slice (some ⟨g8, 0, none⟩) (fs.length + 1) c8) (fs.length + 1) (fs.flatMap encC ++ encC c) := owns_kept hown8 fun g e => by
        have e2 : g8 = g := by simpa [Value.ownBlock] using e
        exact Below.heap_setCell _ ⟨P, 45, none⟩ _ g (by show g ≠ P; omega)
      unfold Hid FsW
      rw [List.length_append, List.flatMap_append]
      simpa using hk
    have HK8 : Hid (Kp P (.slice a fs.length cc) (.slice (some ⟨g8, 0, none⟩) (fs.length + 1) c8) w (w8.setCell ⟨P, 45, none⟩ (.slice (some ⟨g8, 0, none⟩) (fs.length + 1) c8))) := by
      refine ⟨hg8.os.trans HB1.out.os, hg8.tape.trans HB1.out.tape, hg8.output.trans HB1.out.output, ?_, fun k hk h1 h2 => ?_, ?_⟩
      · rw [size_setCell9]; exact Nat.le_trans HB1.out.size hg8.size
      · refine (Below.heap_setCell _ ⟨P, 45, none⟩ _ k h1).trans ((hg8.block k (Nat.lt_of_lt_of_le hk HB1.out.size) fun e => h2 e.symm).trans (HB1.out.block k hk h1))
      · rcases hbl8 with e | e
        · exact .inl e
        · exact .inr ⟨_, e, HB1.out.size⟩
    have HD9 := hidIt (HD8.out.setF (.slice (some ⟨g8, 0, none⟩) (fs.length + 1) c8))
    go_wp2_with fail
    go_end0
    first
      | exact ⟨_, rfl, HD9.out, HF8.out, HK8.out⟩
      | exact ⟨rfl, _, HD9.out, HF8.out, HK8.out⟩)
end Go.Proofs.YtfiaoibfejginaaDoor

namespace Go.Proofs.YtfiaoibfejginaaDoor
set_option linter.unusedVariables false
set_option linter.unusedSimpArgs false
open Go Go.RowKit Go.Sort

theorem SrW.setZ {w : World} {P : Nat} {n : BitVec 64} {A : Nat → BitVec 64} {c : Cn} {vf : Value} {t : Bool} (h : SrW w P n A c vf t) : SrW (w.setCell ⟨P, 41, none⟩ (.int .u64 0)) P n A c vf t := by
  unfold SrW at *
  rw [set_cells h]; rfl
theorem SrW.put {w : World} {P : Nat} {n : BitVec 64} {A : Nat → BitVec 64} {c : Cn} {vf : Value} {t : Bool} (h : SrW w P n A c vf t) (d : Cn) : SrW ((((w.setCell ⟨P, 41, none⟩ (.int .u64 0)).setCell ⟨P, 42, none⟩ (bv d.i)).setCell ⟨P, 43, none⟩ (bv d.o)).setCell ⟨P, 44, none⟩ (bv d.u)) P n A d vf t :=
  ((h.setZ.setI d.i).setO d.o).setU d.u
/-- Some of the legal labellings within d. -/
def SomeS (A : Nat → BitVec 64) (V : BitVec 64) (d : Cn) (ls : List Cn) : Prop := ls.Nodup ∧ ∀ c ∈ ls, Tot V c ∧ Leg A c ∧ SubC c d
theorem SomeS.up {A : Nat → BitVec 64} {V : BitVec 64} {d d' : Cn} {ls : List Cn} (h : SomeS A V d ls) (hs : SubC d d') : SomeS A V d' ls := ⟨h.1, fun c hc => ⟨(h.2 c hc).1, (h.2 c hc).2.1, (h.2 c hc).2.2.trans hs⟩⟩
theorem Sols.some {A : Nat → BitVec 64} {V : BitVec 64} {d : Cn} {ls : List Cn} (h : Sols A V d ls) : SomeS A V d ls := ⟨h.1, fun c hc => (h.2 c).1 hc⟩
theorem SomeS.both {A : Nat → BitVec 64} {V : BitVec 64} {d : Cn} {k : Nat} {l1 l2 : List Cn} (hk : d.i.getLsbD k = true) (hV : V.getLsbD k = true) (h1 : SomeS A V (way1 (oneB k) d) l1) (h2 : SomeS A V (way2 (oneB k) d) l2) : SomeS A V d (l1 ++ l2) := by
  have h64 := bit64 hk
  refine ⟨List.nodup_append.2 ⟨h1.1, h2.1, fun a ha b hb hab => ?_⟩, fun c hc => ?_⟩
  · subst hab
    obtain ⟨ht, -, hs1⟩ := h1.2 a ha
    obtain ⟨-, -, hs2⟩ := h2.2 a hb
    rcases (ht.all k).1 hV with e | e | e
    · exact (bit_sub.1 (hs2.i k e)).2 (bit_oneB.2 ⟨h64, rfl⟩)
    · exact (bit_sub.1 (hs1.o k e)).2 (bit_oneB.2 ⟨h64, rfl⟩)
    · exact (bit_sub.1 (hs1.u k e)).2 (bit_oneB.2 ⟨h64, rfl⟩)
  · rcases List.mem_append.1 hc with h | h
    · exact (h1.up (way1_sub _ _)).2 c h
    · exact (h2.up (way2_sub _ _)).2 c h
/-- What a search from c hands on. -/
def OutS (A : Nat → BitVec 64) (V : BitVec 64) (c : Cn) (fs fs' : List Cn) (t' : Bool) : Prop :=
  fs'.length ≤ 200 ∧ ((t' = false ∧ ∃ ls, Sols A V c ls ∧ fs' = fs ++ ls) ∨ (t' = true ∧ ∃ ls, SomeS A V c ls ∧ 200 < fs.length + ls.length))
theorem OutS.keep {A : Nat → BitVec 64} {V : BitVec 64} {c d : Cn} {fs fs' : List Cn} {t' : Bool} (h : OutS A V d fs fs' t') (hs : SubC d c) (hk : ∀ s, Tot V s → Leg A s → SubC s c → SubC s d) : OutS A V c fs fs' t' := by
  refine ⟨h.1, ?_⟩
  rcases h.2 with ⟨h1, ls, h2, h3⟩ | ⟨h1, ls, h2, h3⟩
  · exact .inl ⟨h1, ls, h2.keep hs hk, h3⟩
  · exact .inr ⟨h1, ls, h2.up hs, h3⟩
theorem OutS.stop {A : Nat → BitVec 64} {V : BitVec 64} {d : Cn} {k : Nat} {fs fs' : List Cn} (h : OutS A V (way1 (oneB k) d) fs fs' true) : OutS A V d fs fs' true := by
  refine ⟨h.1, .inr ?_⟩
  rcases h.2 with ⟨h1, -⟩ | ⟨h1, ls, h2, h3⟩
  · cases h1
  · exact ⟨rfl, ls, h2.up (way1_sub _ _), h3⟩
theorem OutS.both {A : Nat → BitVec 64} {V : BitVec 64} {d : Cn} {k : Nat} {fs fs1 fs' : List Cn} {t' : Bool} (hk : d.i.getLsbD k = true) (hV : V.getLsbD k = true) (h : OutS A V (way1 (oneB k) d) fs fs1 false) (h' : OutS A V (way2 (oneB k) d) fs1 fs' t') : OutS A V d fs fs' t' := by
  refine ⟨h'.1, ?_⟩
  rcases h.2 with ⟨-, l1, h1, rfl⟩ | ⟨h1, -⟩
  · rcases h'.2 with ⟨e, l2, h2, h3⟩ | ⟨e, l2, h2, h3⟩
    · exact .inl ⟨e, l1 ++ l2, Sols.both hk hV h1 h2, by rw [h3, List.append_assoc]⟩
    · refine .inr ⟨e, l1 ++ l2, SomeS.both hk hV h1.some h2, ?_⟩
      rw [List.length_append] at *
      omega
  · cases h1

set_option maxRecDepth 100000 in
set_option maxHeartbeats 2000000 in
theorem sDescend_stop (P : Nat) (n : BitVec 64) (A : Nat → BitVec 64) (c : Cn) (vf : Value) (w : World) (h : SrW w P n A c vf true) :
    Calls Tryd.prog 48 #[.pointer (some ⟨P, 0, none⟩)] w fun e w' => e = .returned (.tuple #[]) ∧ w' = w := by
  have ct := h.ct
  have lP := h.lt
  clear h
  go_enter Tryd.func48, Tryd.ntmps48
  go_wp2_with fail
  first | go_end0 | ((try simp only [Exit.inBlock, Exit.then]); refine bodyPost_ret (results_none rfl _ _ _) rfl ?_)
  exact ⟨rfl, rfl⟩

set_option maxRecDepth 100000 in
set_option maxHeartbeats 8000000 in
theorem sDescend_any (P : Nat) (n : BitVec 64) (A : Nat → BitVec 64) (hg : 0 < P) (hn : ∀ k, n.getLsbD k = true → k < 40) (hA : ∀ k, n.getLsbD k = true → SubB (A k) n) :
    ∀ (m : Nat) (c : Cn) (vf : Value) (fs : List Cn) (w : World), c.mu < m → SrW w P n A c vf false → FsW w P vf fs → Tab w → fs.length ≤ 200 → SubB (c.i ||| c.o ||| c.u) n →
      Calls Tryd.prog 48 #[.pointer (some ⟨P, 0, none⟩)] w fun e w' => ∃ (c' : Cn) (vf' : Value) (fs' : List Cn) (t' : Bool), e = .returned (.tuple #[]) ∧ SrW w' P n A c' vf' t' ∧ FsW w' P vf' fs' ∧ Kp P vf vf' w w' ∧ OutS A n c fs fs' t'
  | 0, c, vf, fs, w, hm, _, _, _, _, _ => absurd hm (Nat.not_lt_zero _)
  | m + 1, c, vf, fs, w, hm, h, hf, hT, hl, hc => by
    have IH := hidIt (sDescend_any P n A hg hn hA m)
    have H := hidIt h
    have HF := hidIt hf
    have HT := hidIt hT
    have HL := hidIt hl
    have HM := hidIt hm
    have HN := hidIt hn
    have HA := hidIt hA
    have HC := hidIt hc
    have HG := hidIt hg
    have ct := h.ct
    have lP := h.lt
    have HP := hidIt lP
    clear h hf hT hl hm hn hA hc hg
    go_enter Tryd.func48, Tryd.ntmps48
    go_wp2_with fail
    refine (sNarrow_any P n A c vf false w H.out HT.out HG.out HN.out HA.out HC.out).mono ?_
    rintro e w1 ⟨b, d, rfl, hd, hb, hsub, hkeep, hfull, hfix⟩
    have HD := hidIt hd
    have HB := hidIt hb
    have HF1 := hidIt (HF.out.but hb)
    have HT1 := hidIt (HT.out.but hb HG.out (Nat.le_of_lt HP.out))
    have HS := hidIt hsub
    have HK := hidIt hkeep
    have HFU := hidIt hfull
    have HFX := hidIt hfix
    have HDV : Hid (SubB (d.i ||| d.o ||| d.u) n) := fun j hj => by
      rcases bit_or.1 hj with h1 | h1
      · rcases bit_or.1 h1 with h2 | h2
        · exact HC.out j (bit_or.2 (.inl (bit_or.2 (.inl (hsub.i j h2)))))
        · exact HC.out j (bit_or.2 (.inl (bit_or.2 (.inr (hsub.o j h2)))))
      · exact HC.out j (bit_or.2 (.inr (hsub.u j h1)))
    have HMU : Hid (d.mu < m + 1) := Nat.lt_of_le_of_lt (mu_le hsub) HM.out
    clear hd hb hsub hkeep hfull hfix ct lP
    cases b
    · go_wp2_with fail
      first | go_end0 | ((try simp only [Exit.inBlock, Exit.then]); refine bodyPost_ret (results_none rfl _ _ _) rfl ?_)
      have hnf : ¬ FullC n d := fun h => by have := HFU.out.2 h; cases this
      first
        | exact ⟨d, vf, fs, false, rfl, HD.out, HF1.out, Kp.of HB.out, HL.out, .inl ⟨rfl, [], (Sols.none HDV.out hnf).keep HS.out HK.out, (List.append_nil _).symm⟩⟩
        | exact ⟨rfl, d, vf, fs, false, HD.out, HF1.out, Kp.of HB.out, HL.out, .inl ⟨rfl, [], (Sols.none HDV.out hnf).keep HS.out HK.out, (List.append_nil _).symm⟩⟩
    · have HFD : Hid (FullC n d) := HFU.out.1 rfl
      have HXD : Hid (Fix A n d) := HFX.out rfl
      go_wp2_with fail
      refine (sChoice_any P n A d vf false _ HD.out HT1.out HN.out HFD.out HXD.out).mono ?_
      rintro e w2 ⟨S, rfl, hch, hb2⟩
      have HCH := hidIt hch
      have HD2 := hidIt (HD.out.go hb2)
      have HF2 := hidIt (HF1.out.but (.of hb2))
      have HT2 := hidIt (HT1.out.go hb2)
      have HB2 := hidIt (HB.out.trans (.of hb2))
      clear hch hb2 HD HF1 HT1 HB HFU HFX
      by_cases hz : S = 0#64
      · have hte := te_t (b := (S.toNat : Int)) rfl hz
        have HSO : Hid (Sols A n d [d]) := Sols.leaf HFD.out HXD.out (HCH.out.1 hz)
        clear hz
        by_cases hfl : fs.length = 200
        · go_wp2_with fail
          refine (sAdd_full P n A d vf fs false _ HD2.out HF2.out hfl).mono ?_
          rintro e w3 ⟨rfl, hd3, hb3⟩
          have HF3 := hidIt (HF2.out.but hb3)
          have HB3 := hidIt (HB2.out.trans hb3)
          go_wp2_with fail
          first | go_end0 | ((try simp only [Exit.inBlock, Exit.then]); refine bodyPost_ret (results_none rfl _ _ _) rfl ?_)
          have HO : OutS A n c fs fs true := OutS.keep (d := d) ⟨HL.out, .inr ⟨rfl, [d], HSO.out.some, by simp [hfl]⟩⟩ HS.out HK.out
          first
            | exact ⟨d, vf, fs, true, rfl, hd3, HF3.out, Kp.of HB3.out, HO⟩
            | exact ⟨rfl, d, vf, fs, true, hd3, HF3.out, Kp.of HB3.out, HO⟩
        · have hlt : fs.length < 200 := by have := HL.out; omega
          have HLT := hidIt hlt
          clear hfl
          go_wp2_with fail
          refine (sAdd_more P n A d vf fs false _ HD2.out HF2.out HLT.out).mono ?_
          rintro e w3 ⟨vf3, rfl, hd3, hf3, hk3⟩
          have HK3 := hidIt ((Kp.of HB2.out).trans hk3)
          go_wp2_with fail
          first | go_end0 | ((try simp only [Exit.inBlock, Exit.then]); refine bodyPost_ret (results_none rfl _ _ _) rfl ?_)
          have HO : OutS A n c fs (fs ++ [d]) false := OutS.keep (d := d) ⟨by rw [List.length_append]; have := HLT.out; simp; omega, .inl ⟨rfl, [d], HSO.out, rfl⟩⟩ HS.out HK.out
          first
            | exact ⟨d, vf3, fs ++ [d], false, rfl, hd3, hf3, HK3.out, HO⟩
            | exact ⟨rfl, d, vf3, fs ++ [d], false, hd3, hf3, HK3.out, HO⟩
      · have hte := te_f (b := (S.toNat : Int)) rfl hz
        obtain ⟨k, hSk, hki, hks⟩ := HCH.out.2 hz
        have HSK := hidIt hSk
        have HKV : Hid (n.getLsbD k = true) := (HFD.out.bit k).2 (.inl hki)
        have HKI := hidIt hki
        have HW1 : Hid ((way1 S d).mu < d.mu) := by have := way1_lt hki hks; rwa [← hSk] at this
        have HW2 : Hid ((way2 S d).mu < d.mu) := by have := way2_lt hki; rwa [← hSk] at this
        clear hz hki hks HCH hSk
        have HSUB1 : Hid (SubB ((way1 S d).i ||| (way1 S d).o ||| (way1 S d).u) n) := fun j hj => HDV.out j (by
          have hs := way1_sub S d
          rcases bit_or.1 hj with h1 | h1
          · rcases bit_or.1 h1 with h2 | h2
            · exact bit_or.2 (.inl (bit_or.2 (.inl (hs.i j h2))))
            · exact bit_or.2 (.inl (bit_or.2 (.inr (hs.o j h2))))
          · exact bit_or.2 (.inr (hs.u j h1)))
        have HSUB2 : Hid (SubB ((way2 S d).i ||| (way2 S d).o ||| (way2 S d).u) n) := fun j hj => HDV.out j (by
          have hs := way2_sub S d
          rcases bit_or.1 hj with h1 | h1
          · rcases bit_or.1 h1 with h2 | h2
            · exact bit_or.2 (.inl (bit_or.2 (.inl (hs.i j h2))))
            · exact bit_or.2 (.inl (bit_or.2 (.inr (hs.o j h2))))
          · exact bit_or.2 (.inr (hs.u j h1)))
        have c0 := HD2.out.c0
        have c1 := HD2.out.c1
        have c2 := HD2.out.c2
        have c3 := HD2.out.c3
        have lP := HD2.out.lt
        have HX3 : Hid (CnB (w2.alloc (.cells #[.int .u64 0, bv d.i, bv d.o, bv d.u] 57)) w2.heap.size d) := heap_alloc_new w2 _
        have HD3 := hidIt (HD2.out.go (bgrow w2 (.cells #[.int .u64 0, bv d.i, bv d.o, bv d.u] 57)))
        have HF3 := hidIt (HF2.out.but (.of (bgrow w2 (.cells #[.int .u64 0, bv d.i, bv d.o, bv d.u] 57))))
        have HB3 := hidIt (HB2.out.trans (.of (bgrow w2 (.cells #[.int .u64 0, bv d.i, bv d.o, bv d.u] 57))))
        have HOQ : Hid (∀ g, vf.ownBlock = some g → g ≠ w2.heap.size) := fun g e => by have := (owns_blk HF2.out g e).2; omega
        have HQP : Hid (w2.heap.size ≠ P) := by show _ ≠ _; omega
        have HST1 := hidIt (bits_andNot_bv d.o S)
        have HST2 := hidIt (bits_andNot_bv d.u S)
        have HST3 := hidIt (bits_andNot_bv d.i S)
        go_upto_region 5 with (fail)
        obtain ⟨q, hq⟩ : ∃ q, q = w2.heap.size := ⟨_, rfl⟩
        rw [← hq] at HX3 HOQ HQP ⊢
        clear hq
        generalize (w2.alloc (.cells #[.int .u64 0, bv d.i, bv d.o, bv d.u] 57)) = w3 at *
        clear c0 c1 c2 c3 lP HD2 HF2 HT2 HB2
        have c2 := HD3.out.c2
        have lP := HD3.out.lt
        have f2 := HD3.out.free 43
        go_region
        rw [HST1.out]
        have HX4 : Hid (CnB (w3.setCell ⟨P, 43, none⟩ (bv (d.o &&& ~~~S))).drew q d) := HX3.out.but ((ButP.refl P w3).set 43 _).drew HQP.out
        have HD4 : Hid (SrW (w3.setCell ⟨P, 43, none⟩ (bv (d.o &&& ~~~S))).drew P n A ⟨d.i, d.o &&& ~~~S, d.u⟩ vf false) := HD3.out.setO _
        have HB4 := hidIt ((HB3.out.set 43 (bv (d.o &&& ~~~S))).drew)
        have HF4 : Hid (FsW (w3.setCell ⟨P, 43, none⟩ (bv (d.o &&& ~~~S))).drew P vf fs) := HF3.out.but ((ButP.refl P w3).set 43 _).drew
        clear c2 lP f2 HX3 HD3 HB3 HF3
        go_upto_region 6 with (fail)
        generalize (w3.setCell ⟨P, 43, none⟩ (bv (d.o &&& ~~~S))).drew = w4 at *
        have c3 := HD4.out.c3
        have lP := HD4.out.lt
        have f3 := HD4.out.free 44
        go_region
        rw [HST2.out]
        have HX5 : Hid (CnB (w4.setCell ⟨P, 44, none⟩ (bv (d.u &&& ~~~S))).drew q d) := HX4.out.but ((ButP.refl P w4).set 44 _).drew HQP.out
        have HD5 : Hid (SrW (w4.setCell ⟨P, 44, none⟩ (bv (d.u &&& ~~~S))).drew P n A (way1 S d) vf false) := HD4.out.setU _
        have HB5 := hidIt ((HB4.out.set 44 (bv (d.u &&& ~~~S))).drew)
        have HF5 : Hid (FsW (w4.setCell ⟨P, 44, none⟩ (bv (d.u &&& ~~~S))).drew P vf fs) := HF4.out.but ((ButP.refl P w4).set 44 _).drew
        clear c3 lP f3 HX4 HD4 HB4 HF4
        go_upto_region 7 with (fail)
        generalize (w4.setCell ⟨P, 44, none⟩ (bv (d.u &&& ~~~S))).drew = w5 at *
        have HT5 := hidIt (HT.out.but HB5.out HG.out (Nat.le_of_lt HP.out))
        have HQ5 : Hid (q < w5.heap.size) := lt_of_block HX5.out
        go_wp2_with fail
        refine (IH.out (way1 S d) vf fs _ (by have := HW1.out; have := HMU.out; omega) HD5.out HF5.out HT5.out HL.out HSUB1.out).mono ?_
        rintro e w6 ⟨c6, vf6, fs6, t6, rfl, hd6, hf6, hk6, ho6⟩
        have HX6 : Hid (CnB w6 q d) := (hk6.block q HQ5.out HQP.out fun e => HOQ.out q e rfl).trans HX5.out
        have HD6 := hidIt hd6
        have HF6 := hidIt hf6
        have HK6 := hidIt ((Kp.of HB5.out).trans hk6)
        have HO6 := hidIt ho6
        clear hd6 hf6 hk6 ho6 HX5 HD5 HF5 HB5 HT5 HQ5
        have f0 := HD6.out.free 41
        have f1 := HD6.out.free 42
        have f2 := HD6.out.free 43
        have f3 := HD6.out.free 44
        have e0 := HD6.out.c0
        have e1 := HD6.out.c1
        have e2 := HD6.out.c2
        have e3 := HD6.out.c3
        have lP := HD6.out.lt
        have lq := lt_of_block HX6.out
        obtain ⟨x0, x1, x2, x3⟩ := cells4 HX6.out
        go_upto_region 9 with (fail)
        have HB7 := hidIt (((((ButP.refl P w6).set 41 (.int .u64 0)).set 42 (bv d.i)).set 43 (bv d.o)).set 44 (bv d.u))
        have HD7 := hidIt (HD6.out.put d)
        have HF7 := hidIt (HF6.out.but HB7.out)
        have HK7 := hidIt (HK6.out.trans (Kp.of HB7.out))
        clear f0 f1 f2 f3 e0 e1 e2 e3 lP lq x0 x1 x2 x3 HX6 HD6 HF6 HK6 HB7
        generalize ((((w6.setCell ⟨P, 41, none⟩ (.int .u64 0)).setCell ⟨P, 42, none⟩ (bv d.i)).setCell ⟨P, 43, none⟩ (bv d.o)).setCell ⟨P, 44, none⟩ (bv d.u)) = w7 at *
        have c1 := HD7.out.c1
        have lP := HD7.out.lt
        have f1 := HD7.out.free 42
        go_region
        rw [HST3.out]
        have HB8 := hidIt (((ButP.refl P w7).set 42 (bv (d.i &&& ~~~S))).drew)
        have HD8 : Hid (SrW (w7.setCell ⟨P, 42, none⟩ (bv (d.i &&& ~~~S))).drew P n A (way2 S d) vf6 t6) := HD7.out.setI _
        have HF8 := hidIt (HF7.out.but HB8.out)
        have HK8 := hidIt (HK7.out.trans (Kp.of HB8.out))
        clear c1 lP f1 HD7 HF7 HK7 HB8
        go_upto_region 10 with (fail)
        generalize (w7.setCell ⟨P, 42, none⟩ (bv (d.i &&& ~~~S))).drew = w8 at *
        cases t6
        · have HT8 : Hid (Tab w8) := fun j hj => (Below.cell (p := ⟨0, j, none⟩) (HK8.out.below HF.out (Nat.le_refl P) (Nat.le_of_lt HP.out)) HG.out).trans (HT.out j hj)
          go_wp2_with fail
          refine (IH.out (way2 S d) vf6 fs6 _ (by have := HW2.out; have := HMU.out; omega) HD8.out HF8.out HT8.out HO6.out.1 HSUB2.out).mono ?_
          rintro e w9 ⟨c9, vf9, fs9, t9, rfl, hd9, hf9, hk9, ho9⟩
          have HK9 := hidIt (HK8.out.trans hk9)
          go_wp2_with fail
          first | go_end0 | ((try simp only [Exit.inBlock, Exit.then]); refine bodyPost_ret (results_none rfl _ _ _) rfl ?_)
          have HO : OutS A n c fs fs9 t9 := (OutS.both HKI.out HKV.out (by have := HO6.out; rwa [HSK.out] at this) (by rwa [HSK.out] at ho9)).keep HS.out HK.out
          first
            | exact ⟨c9, vf9, fs9, t9, rfl, hd9, hf9, HK9.out, HO⟩
            | exact ⟨rfl, c9, vf9, fs9, t9, hd9, hf9, HK9.out, HO⟩
        · go_wp2_with fail
          refine (sDescend_stop P n A (way2 S d) vf6 _ HD8.out).mono ?_
          rintro e w9 ⟨rfl, rfl⟩
          go_wp2_with fail
          first | go_end0 | ((try simp only [Exit.inBlock, Exit.then]); refine bodyPost_ret (results_none rfl _ _ _) rfl ?_)
          have HO : OutS A n c fs fs6 true := (OutS.stop (by have := HO6.out; rwa [HSK.out] at this)).keep HS.out HK.out
          first
            | exact ⟨_, vf6, fs6, true, rfl, HD8.out, HF8.out, HK8.out, HO⟩
            | exact ⟨rfl, _, vf6, fs6, true, HD8.out, HF8.out, HK8.out, HO⟩
end Go.Proofs.YtfiaoibfejginaaDoor

namespace Go.Proofs.YtfiaoibfejginaaDoor
set_option linter.unusedVariables false
set_option linter.unusedSimpArgs false
open Go Go.RowKit Go.Sort

def rowF (N : Nat) (f : Nat → Int) : List Int := (List.range N).map f
theorem rowF_len (N : Nat) (f : Nat → Int) : (rowF N f).length = N := by simp [rowF]
def updI (f : Nat → Int) (i : Nat) (z : Int) : Nat → Int := fun j => if j = i then z else f j
theorem rowF_set (N : Nat) (f : Nat → Int) (i : Nat) (z : Int) : (rowF N f).set i z = rowF N (updI f i z) := by
  apply List.ext_getElem?
  intro j
  rw [List.getElem?_set, rowF_len]
  unfold rowF updI
  by_cases h : i = j
  · subst h
    by_cases hi : i < N
    · simp [hi]
    · simp [hi]
  · have h' : ¬ j = i := fun e => h e.symm
    by_cases hj : j < N
    · simp [h, h', hj]
    · simp [h, hj]
theorem rowF_congr {N : Nat} {f g : Nat → Int} (h : ∀ j, j < N → f j = g j) : rowF N f = rowF N g := List.map_congr_left fun j hj => h j (List.mem_range.1 hj)
theorem rep_rowF (N : Nat) : List.replicate N (0 : Int) = rowF N (fun _ => 0) := by
  unfold rowF
  rw [List.map_const', List.length_range]
/-- The label at a node, behind the labels below k. -/
def labTo (c : Cn) (k : Nat) (j : Nat) : Int := if 3 < k ∧ c.u.getLsbD j = true then 3 else if 2 < k ∧ c.o.getLsbD j = true then 2 else if 1 < k ∧ c.i.getLsbD j = true then 1 else 0
def labF (c : Cn) (j : Nat) : Int := if c.u.getLsbD j = true then 3 else if c.o.getLsbD j = true then 2 else if c.i.getLsbD j = true then 1 else 0
/-- The labels of N nodes. -/
def labV (N : Nat) (c : Cn) : List Int := rowF N (labF c)
theorem labTo_zero (c : Cn) (j : Nat) : labTo c 0 j = 0 := by simp [labTo]
theorem labTo_end (c : Cn) (j : Nat) : labTo c 4 j = labF c j := by simp [labTo, labF]
theorem labTo_0 (c : Cn) (j : Nat) : labTo c 1 j = if (0#64).getLsbD j = true then 0 else labTo c 0 j := by simp [labTo]
theorem labTo_1 (c : Cn) (j : Nat) : labTo c 2 j = if c.i.getLsbD j = true then 1 else labTo c 1 j := by simp [labTo]
theorem labTo_2 (c : Cn) (j : Nat) : labTo c 3 j = if c.o.getLsbD j = true then 2 else labTo c 2 j := by simp [labTo]
theorem labTo_3 (c : Cn) (j : Nat) : labTo c 4 j = if c.u.getLsbD j = true then 3 else labTo c 3 j := by simp [labTo]

theorem idx_cn0 (z1 z2 z3 : Int) (w : World) : (Instr.index 57 (.agg #[.int .u64 0, .int .u64 z1, .int .u64 z2, .int .u64 z3]) (.int .i64 0)).run Tryd.prog w = .ok (.int .u64 0) w := by
  obtain ⟨i0, hi, h0, h1, h2⟩ := info_parts infoU9
  have u := Tryd.underlying57
  have u4 := Tryd.underlying54
  simp only [Instr.index, asIntOf, Sem.run_bind, Sem.run_pure, Result.andThen_ok, run_underlying u]
  go_simp
theorem idx_cn1 (z1 z2 z3 : Int) (w : World) : (Instr.index 57 (.agg #[.int .u64 0, .int .u64 z1, .int .u64 z2, .int .u64 z3]) (.int .i64 1)).run Tryd.prog w = .ok (.int .u64 z1) w := by
  obtain ⟨i0, hi, h0, h1, h2⟩ := info_parts infoU9
  have u := Tryd.underlying57
  have u4 := Tryd.underlying54
  simp only [Instr.index, asIntOf, Sem.run_bind, Sem.run_pure, Result.andThen_ok, run_underlying u]
  go_simp
theorem idx_cn2 (z1 z2 z3 : Int) (w : World) : (Instr.index 57 (.agg #[.int .u64 0, .int .u64 z1, .int .u64 z2, .int .u64 z3]) (.int .i64 2)).run Tryd.prog w = .ok (.int .u64 z2) w := by
  obtain ⟨i0, hi, h0, h1, h2⟩ := info_parts infoU9
  have u := Tryd.underlying57
  have u4 := Tryd.underlying54
  simp only [Instr.index, asIntOf, Sem.run_bind, Sem.run_pure, Result.andThen_ok, run_underlying u]
  go_simp
theorem idx_cn3 (z1 z2 z3 : Int) (w : World) : (Instr.index 57 (.agg #[.int .u64 0, .int .u64 z1, .int .u64 z2, .int .u64 z3]) (.int .i64 3)).run Tryd.prog w = .ok (.int .u64 z3) w := by
  obtain ⟨i0, hi, h0, h1, h2⟩ := info_parts infoU9
  have u := Tryd.underlying57
  have u4 := Tryd.underlying54
  simp only [Instr.index, asIntOf, Sem.run_bind, Sem.run_pure, Result.andThen_ok, run_underlying u]
  go_simp

set_option maxRecDepth 100000 in
set_option maxHeartbeats 4000000 in
theorem sList_any (N : Nat) (hN : N ≤ 40) (c : Cn) (w : World) (hT : Tab w) (hi : ∀ j, c.i.getLsbD j = true → j < N) (ho : ∀ j, c.o.getLsbD j = true → j < N) (hu : ∀ j, c.u.getLsbD j = true → j < N) :
    Calls Tryd.prog 49 #[cnV c, .int .i64 (N : Int)] w fun e w' => ∃ b, e = .returned (.slice (some ⟨b, 0, none⟩) N N) ∧ w.heap.size ≤ b ∧ IR w' b (labV N c) ∧ Below w.heap.size w w' := by
  have HT := hidIt hT
  have HI := hidIt hi
  have HO := hidIt ho
  have HU := hidIt hu
  have hB := bgrow w (.cells #[.int .u64 0, bv c.i, bv c.o, bv c.u] 57)
  have hX := heap_alloc_new w (.cells #[.int .u64 0, bv c.i, bv c.o, bv c.u] 57)
  have HB := hidIt hB
  have HX := hidIt hX
  have HT1 := hidIt (hT.go hB)
  have hmk := fun w => make_intsR N (by omega) w
  clear hB hX hT hi ho hu
  unfold cnV
  go_enter Tryd.func49, Tryd.ntmps49
  go_upto_region 1 with (fail)
  generalize (w.alloc (.cells #[.int .u64 0, bv c.i, bv c.o, bv c.u] 57)) = w1 at *
  obtain ⟨K, hK⟩ : ∃ K, K = w.heap.size := ⟨_, rfl⟩
  have HK := hidIt hK
  rw [← hK] at HX ⊢
  clear hK
  go_upto_region 2 with (fail)
  have hg2 := bgrow w1 (.cells (intRow (List.replicate N 0)) 3)
  have HX2 := hidIt (blk_kept2 HX.out hg2)
  have HT2 := hidIt (HT1.out.go hg2)
  have HB2 := hidIt (HB.out.trans (Below.mono hg2 HB.out.size))
  have HR2 : Hid (IR (w1.alloc (.cells (intRow (List.replicate N 0)) 3)) w1.heap.size (rowF N (fun _ => 0))) := by
    rw [← rep_rowF]; exact heap_alloc_new w1 _
  have HBK : Hid (w.heap.size ≤ w1.heap.size) := HB.out.size
  clear hg2
  generalize (w1.alloc (.cells (intRow (List.replicate N 0)) 3)) = w2 at *
  obtain ⟨b, hb⟩ : ∃ b, b = w1.heap.size := ⟨_, rfl⟩
  rw [← hb] at HR2 HBK ⊢
  clear hb HX HT1 HB hmk
  obtain ⟨x0, x1, x2, x3⟩ := cells4 HX2.out
  have lx := lt_of_block HX2.out
  go_wp2_with fail
  clear x0 x1 x2 x3 lx
  go_loopw [11] (fun v11 wr => ∃ (z : Int) (f : Nat → Int), (z = 0 ∨ z = 1 ∨ z = 2 ∨ z = 3 ∨ z = 4) ∧ v11 = .int .i64 z ∧ Hid (IR wr b (rowF N f)) ∧ Hid (∀ j, j < N → f j = labTo c z.toNat j) ∧ Hid (Tab wr) ∧ Hid (Below w.heap.size w wr)) (fun v11 _ => 4 - (intOf v11).toNat)
  case atStart => exact ⟨0, fun _ => 0, .inl rfl, rfl, HR2, fun j _ => (labTo_zero c j).symm, HT2, HB2⟩
  case round =>
    obtain ⟨k, f0, hk5, rfl, HR0, HF0, HT0, HB0⟩ := hrel
    rcases hk5 with rfl | rfl | rfl | rfl | rfl
    · have HS : Hid (∀ j, (0#64).getLsbD j = true → j < N) := fun j h => by simp at h
      have HLT := hidIt (labTo_0 c)
      have hix := fun w => idx_cn0 (c.i.toNat : Int) (c.o.toNat : Int) (c.u.toNat : Int) w
      go_wp2_with fail
      go_loopw [7] (fun v7 wr => ∃ (T : BitVec 64) (zs : List Nat) (f : Nat → Int), v7 = bv T ∧ Hid (zs ++ members T = members (0#64)) ∧ Hid (IR wr b (rowF N f)) ∧ Hid (∀ j, j < N → f j = if j ∈ zs then 0 else f0 j) ∧ Hid (Tab wr) ∧ Hid (Below w.heap.size w wr)) (fun v7 _ => (intOf v7).toNat)
      case atStart => exact ⟨(0#64), [], f0, rfl, (rfl : [] ++ members (0#64) = members (0#64)), HR0, fun j _ => (if_neg (List.not_mem_nil)).symm, HT0, HB0⟩
      case round =>
        obtain ⟨T, zs, f, rfl, HZM, HR, HF, HTr, HBr⟩ := hrel
        by_cases hz : T = 0#64
        · subst hz
          have HZS : Hid (zs = members (0#64)) := by
            have := HZM.out
            rw [members_zero, List.append_nil] at this
            exact this
          go_wp2_with fail
          go_roundw
          case rel =>
            refine ⟨1, f, by omega, rfl, HR, fun j hj => ?_, HTr, HBr⟩
            show _ = labTo c 1 j
            rw [HF.out j hj, HLT.out j, show f0 j = labTo c 0 j from HF0.out j hj, HZS.out]
            by_cases hb : (0#64).getLsbD j = true
            · rw [if_pos (mem_members.2 ⟨bit64 hb, hb⟩), if_pos hb]; try rfl
            · rw [if_neg fun h => hb (mem_members.1 h).2, if_neg hb]
          case measure => simp [intOf]
        · have HZ := hidIt hz
          have hne : ((T.toNat : Int) != 0) = true := by have := bv_ne hz; simp; omega
          have hws := wrap_sub_one hz
          obtain ⟨hand, hand2⟩ := clear_bits hz
          have HAND2 := hidIt hand2
          have hmem : ctzB T ∈ members (0#64) := by rw [← HZM.out, members_step hz]; exact List.mem_append_right _ (List.mem_cons_self ..)
          have hkN : ctzB T < N := HS.out _ (mem_members.1 hmem).2
          have hkI0 : (0 : Int) ≤ (ctzB T : Int) := by omega
          have hkI : (ctzB T : Int) < (N : Int) := by omega
          have HM8 : Hid ((zs ++ [ctzB T]) ++ members (T &&& (T - 1#64)) = members (0#64)) := by
            show _ = _
            rw [← HZM.out, members_step HZ.out, List.append_assoc]
            rfl
          have hlt := clear_lt HZ.out
          have HTZ := hidIt (tz_any T _ HTr.out)
          clear hz hand2 hmem
          generalize ctzB T = i at *
          go_wp2_with fail
          refine HTZ.out.mono ?_
          rintro e w5 ⟨rfl, rfl⟩
          obtain ⟨z0, ex⟩ := HR.out.ex (i := i) (by rw [rowF_len]; exact hkN)
          have fr := HR.out.free i
          have lb := HR.out.lt
          go_wp2_with fail
          have HR6 : Hid (IR (w5.setCell ⟨b, i, none⟩ (.int .i64 0)) b (rowF N (updI f i 0))) := by
            have := HR.out.set i 0
            rwa [rowF_set] at this
          have HB6 := hidIt (below_set5 (i := i) (u := .int .i64 0) HBr.out (Nat.le_trans HBK.out (Nat.le_refl _)))
          have HT6 : Hid (Tab (w5.setCell ⟨b, i, none⟩ (.int .i64 0))) := HT.out.go HB6.out
          go_roundw
          case rel =>
            refine ⟨T &&& (T - 1#64), zs ++ [i], updI f i 0, (by first | rfl | rw [hand]), HM8, HR6, fun j hj => ?_, HT6, HB6⟩
            unfold updI
            by_cases hji : j = i
            · rw [if_pos hji, if_pos (by rw [hji]; exact List.mem_append_right _ (List.mem_cons_self ..))]
            · rw [if_neg hji, HF.out j hj]
              by_cases hjz : j ∈ zs
              · rw [if_pos hjz, if_pos (List.mem_append_left _ hjz)]
              · rw [if_neg hjz, if_neg fun h => by
                  rcases List.mem_append.1 h with h | h
                  · exact hjz h
                  · exact hji (List.mem_singleton.1 h)]
          case measure =>
            show Int.toNat _ < Int.toNat _
            rw [HAND2.out]
            show ((T &&& (T - 1#64)).toNat : Int).toNat < ((T.toNat : Int)).toNat
            rw [Int.toNat_natCast, Int.toNat_natCast]
            exact hlt
    · have HS : Hid (∀ j, c.i.getLsbD j = true → j < N) := HI.out
      have HLT := hidIt (labTo_1 c)
      have hix := fun w => idx_cn1 (c.i.toNat : Int) (c.o.toNat : Int) (c.u.toNat : Int) w
      go_wp2_with fail
      go_loopw [7] (fun v7 wr => ∃ (T : BitVec 64) (zs : List Nat) (f : Nat → Int), v7 = bv T ∧ Hid (zs ++ members T = members c.i) ∧ Hid (IR wr b (rowF N f)) ∧ Hid (∀ j, j < N → f j = if j ∈ zs then 1 else f0 j) ∧ Hid (Tab wr) ∧ Hid (Below w.heap.size w wr)) (fun v7 _ => (intOf v7).toNat)
      case atStart => exact ⟨c.i, [], f0, rfl, (rfl : [] ++ members c.i = members c.i), HR0, fun j _ => (if_neg (List.not_mem_nil)).symm, HT0, HB0⟩
      case round =>
        obtain ⟨T, zs, f, rfl, HZM, HR, HF, HTr, HBr⟩ := hrel
        by_cases hz : T = 0#64
        · subst hz
          have HZS : Hid (zs = members c.i) := by
            have := HZM.out
            rw [members_zero, List.append_nil] at this
            exact this
          go_wp2_with fail
          go_roundw
          case rel =>
            refine ⟨2, f, by omega, rfl, HR, fun j hj => ?_, HTr, HBr⟩
            show _ = labTo c 2 j
            rw [HF.out j hj, HLT.out j, show f0 j = labTo c 1 j from HF0.out j hj, HZS.out]
            by_cases hb : c.i.getLsbD j = true
            · rw [if_pos (mem_members.2 ⟨bit64 hb, hb⟩), if_pos hb]; try rfl
            · rw [if_neg fun h => hb (mem_members.1 h).2, if_neg hb]
          case measure => simp [intOf]
        · have HZ := hidIt hz
          have hne : ((T.toNat : Int) != 0) = true := by have := bv_ne hz; simp; omega
          have hws := wrap_sub_one hz
          obtain ⟨hand, hand2⟩ := clear_bits hz
          have HAND2 := hidIt hand2
          have hmem : ctzB T ∈ members c.i := by rw [← HZM.out, members_step hz]; exact List.mem_append_right _ (List.mem_cons_self ..)
          have hkN : ctzB T < N := HS.out _ (mem_members.1 hmem).2
          have hkI0 : (0 : Int) ≤ (ctzB T : Int) := by omega
          have hkI : (ctzB T : Int) < (N : Int) := by omega
          have HM8 : Hid ((zs ++ [ctzB T]) ++ members (T &&& (T - 1#64)) = members c.i) := by
            show _ = _
            rw [← HZM.out, members_step HZ.out, List.append_assoc]
            rfl
          have hlt := clear_lt HZ.out
          have HTZ := hidIt (tz_any T _ HTr.out)
          clear hz hand2 hmem
          generalize ctzB T = i at *
          go_wp2_with fail
          refine HTZ.out.mono ?_
          rintro e w5 ⟨rfl, rfl⟩
          obtain ⟨z0, ex⟩ := HR.out.ex (i := i) (by rw [rowF_len]; exact hkN)
          have fr := HR.out.free i
          have lb := HR.out.lt
          go_wp2_with fail
          have HR6 : Hid (IR (w5.setCell ⟨b, i, none⟩ (.int .i64 1)) b (rowF N (updI f i 1))) := by
            have := HR.out.set i 1
            rwa [rowF_set] at this
          have HB6 := hidIt (below_set5 (i := i) (u := .int .i64 1) HBr.out (Nat.le_trans HBK.out (Nat.le_refl _)))
          have HT6 : Hid (Tab (w5.setCell ⟨b, i, none⟩ (.int .i64 1))) := HT.out.go HB6.out
          go_roundw
          case rel =>
            refine ⟨T &&& (T - 1#64), zs ++ [i], updI f i 1, (by first | rfl | rw [hand]), HM8, HR6, fun j hj => ?_, HT6, HB6⟩
            unfold updI
            by_cases hji : j = i
            · rw [if_pos hji, if_pos (by rw [hji]; exact List.mem_append_right _ (List.mem_cons_self ..))]
            · rw [if_neg hji, HF.out j hj]
              by_cases hjz : j ∈ zs
              · rw [if_pos hjz, if_pos (List.mem_append_left _ hjz)]
              · rw [if_neg hjz, if_neg fun h => by
                  rcases List.mem_append.1 h with h | h
                  · exact hjz h
                  · exact hji (List.mem_singleton.1 h)]
          case measure =>
            show Int.toNat _ < Int.toNat _
            rw [HAND2.out]
            show ((T &&& (T - 1#64)).toNat : Int).toNat < ((T.toNat : Int)).toNat
            rw [Int.toNat_natCast, Int.toNat_natCast]
            exact hlt
    · have HS : Hid (∀ j, c.o.getLsbD j = true → j < N) := HO.out
      have HLT := hidIt (labTo_2 c)
      have hix := fun w => idx_cn2 (c.i.toNat : Int) (c.o.toNat : Int) (c.u.toNat : Int) w
      go_wp2_with fail
      go_loopw [7] (fun v7 wr => ∃ (T : BitVec 64) (zs : List Nat) (f : Nat → Int), v7 = bv T ∧ Hid (zs ++ members T = members c.o) ∧ Hid (IR wr b (rowF N f)) ∧ Hid (∀ j, j < N → f j = if j ∈ zs then 2 else f0 j) ∧ Hid (Tab wr) ∧ Hid (Below w.heap.size w wr)) (fun v7 _ => (intOf v7).toNat)
      case atStart => exact ⟨c.o, [], f0, rfl, (rfl : [] ++ members c.o = members c.o), HR0, fun j _ => (if_neg (List.not_mem_nil)).symm, HT0, HB0⟩
      case round =>
        obtain ⟨T, zs, f, rfl, HZM, HR, HF, HTr, HBr⟩ := hrel
        by_cases hz : T = 0#64
        · subst hz
          have HZS : Hid (zs = members c.o) := by
            have := HZM.out
            rw [members_zero, List.append_nil] at this
            exact this
          go_wp2_with fail
          go_roundw
          case rel =>
            refine ⟨3, f, by omega, rfl, HR, fun j hj => ?_, HTr, HBr⟩
            show _ = labTo c 3 j
            rw [HF.out j hj, HLT.out j, show f0 j = labTo c 2 j from HF0.out j hj, HZS.out]
            by_cases hb : c.o.getLsbD j = true
            · rw [if_pos (mem_members.2 ⟨bit64 hb, hb⟩), if_pos hb]; try rfl
            · rw [if_neg fun h => hb (mem_members.1 h).2, if_neg hb]
          case measure => simp [intOf]
        · have HZ := hidIt hz
          have hne : ((T.toNat : Int) != 0) = true := by have := bv_ne hz; simp; omega
          have hws := wrap_sub_one hz
          obtain ⟨hand, hand2⟩ := clear_bits hz
          have HAND2 := hidIt hand2
          have hmem : ctzB T ∈ members c.o := by rw [← HZM.out, members_step hz]; exact List.mem_append_right _ (List.mem_cons_self ..)
          have hkN : ctzB T < N := HS.out _ (mem_members.1 hmem).2
          have hkI0 : (0 : Int) ≤ (ctzB T : Int) := by omega
          have hkI : (ctzB T : Int) < (N : Int) := by omega
          have HM8 : Hid ((zs ++ [ctzB T]) ++ members (T &&& (T - 1#64)) = members c.o) := by
            show _ = _
            rw [← HZM.out, members_step HZ.out, List.append_assoc]
            rfl
          have hlt := clear_lt HZ.out
          have HTZ := hidIt (tz_any T _ HTr.out)
          clear hz hand2 hmem
          generalize ctzB T = i at *
          go_wp2_with fail
          refine HTZ.out.mono ?_
          rintro e w5 ⟨rfl, rfl⟩
          obtain ⟨z0, ex⟩ := HR.out.ex (i := i) (by rw [rowF_len]; exact hkN)
          have fr := HR.out.free i
          have lb := HR.out.lt
          go_wp2_with fail
          have HR6 : Hid (IR (w5.setCell ⟨b, i, none⟩ (.int .i64 2)) b (rowF N (updI f i 2))) := by
            have := HR.out.set i 2
            rwa [rowF_set] at this
          have HB6 := hidIt (below_set5 (i := i) (u := .int .i64 2) HBr.out (Nat.le_trans HBK.out (Nat.le_refl _)))
          have HT6 : Hid (Tab (w5.setCell ⟨b, i, none⟩ (.int .i64 2))) := HT.out.go HB6.out
          go_roundw
          case rel =>
            refine ⟨T &&& (T - 1#64), zs ++ [i], updI f i 2, (by first | rfl | rw [hand]), HM8, HR6, fun j hj => ?_, HT6, HB6⟩
            unfold updI
            by_cases hji : j = i
            · rw [if_pos hji, if_pos (by rw [hji]; exact List.mem_append_right _ (List.mem_cons_self ..))]
            · rw [if_neg hji, HF.out j hj]
              by_cases hjz : j ∈ zs
              · rw [if_pos hjz, if_pos (List.mem_append_left _ hjz)]
              · rw [if_neg hjz, if_neg fun h => by
                  rcases List.mem_append.1 h with h | h
                  · exact hjz h
                  · exact hji (List.mem_singleton.1 h)]
          case measure =>
            show Int.toNat _ < Int.toNat _
            rw [HAND2.out]
            show ((T &&& (T - 1#64)).toNat : Int).toNat < ((T.toNat : Int)).toNat
            rw [Int.toNat_natCast, Int.toNat_natCast]
            exact hlt
    · have HS : Hid (∀ j, c.u.getLsbD j = true → j < N) := HU.out
      have HLT := hidIt (labTo_3 c)
      have hix := fun w => idx_cn3 (c.i.toNat : Int) (c.o.toNat : Int) (c.u.toNat : Int) w
      go_wp2_with fail
      go_loopw [7] (fun v7 wr => ∃ (T : BitVec 64) (zs : List Nat) (f : Nat → Int), v7 = bv T ∧ Hid (zs ++ members T = members c.u) ∧ Hid (IR wr b (rowF N f)) ∧ Hid (∀ j, j < N → f j = if j ∈ zs then 3 else f0 j) ∧ Hid (Tab wr) ∧ Hid (Below w.heap.size w wr)) (fun v7 _ => (intOf v7).toNat)
      case atStart => exact ⟨c.u, [], f0, rfl, (rfl : [] ++ members c.u = members c.u), HR0, fun j _ => (if_neg (List.not_mem_nil)).symm, HT0, HB0⟩
      case round =>
        obtain ⟨T, zs, f, rfl, HZM, HR, HF, HTr, HBr⟩ := hrel
        by_cases hz : T = 0#64
        · subst hz
          have HZS : Hid (zs = members c.u) := by
            have := HZM.out
            rw [members_zero, List.append_nil] at this
            exact this
          go_wp2_with fail
          go_roundw
          case rel =>
            refine ⟨4, f, by omega, rfl, HR, fun j hj => ?_, HTr, HBr⟩
            show _ = labTo c 4 j
            rw [HF.out j hj, HLT.out j, show f0 j = labTo c 3 j from HF0.out j hj, HZS.out]
            by_cases hb : c.u.getLsbD j = true
            · rw [if_pos (mem_members.2 ⟨bit64 hb, hb⟩), if_pos hb]; try rfl
            · rw [if_neg fun h => hb (mem_members.1 h).2, if_neg hb]
          case measure => simp [intOf]
        · have HZ := hidIt hz
          have hne : ((T.toNat : Int) != 0) = true := by have := bv_ne hz; simp; omega
          have hws := wrap_sub_one hz
          obtain ⟨hand, hand2⟩ := clear_bits hz
          have HAND2 := hidIt hand2
          have hmem : ctzB T ∈ members c.u := by rw [← HZM.out, members_step hz]; exact List.mem_append_right _ (List.mem_cons_self ..)
          have hkN : ctzB T < N := HS.out _ (mem_members.1 hmem).2
          have hkI0 : (0 : Int) ≤ (ctzB T : Int) := by omega
          have hkI : (ctzB T : Int) < (N : Int) := by omega
          have HM8 : Hid ((zs ++ [ctzB T]) ++ members (T &&& (T - 1#64)) = members c.u) := by
            show _ = _
            rw [← HZM.out, members_step HZ.out, List.append_assoc]
            rfl
          have hlt := clear_lt HZ.out
          have HTZ := hidIt (tz_any T _ HTr.out)
          clear hz hand2 hmem
          generalize ctzB T = i at *
          go_wp2_with fail
          refine HTZ.out.mono ?_
          rintro e w5 ⟨rfl, rfl⟩
          obtain ⟨z0, ex⟩ := HR.out.ex (i := i) (by rw [rowF_len]; exact hkN)
          have fr := HR.out.free i
          have lb := HR.out.lt
          go_wp2_with fail
          have HR6 : Hid (IR (w5.setCell ⟨b, i, none⟩ (.int .i64 3)) b (rowF N (updI f i 3))) := by
            have := HR.out.set i 3
            rwa [rowF_set] at this
          have HB6 := hidIt (below_set5 (i := i) (u := .int .i64 3) HBr.out (Nat.le_trans HBK.out (Nat.le_refl _)))
          have HT6 : Hid (Tab (w5.setCell ⟨b, i, none⟩ (.int .i64 3))) := HT.out.go HB6.out
          go_roundw
          case rel =>
            refine ⟨T &&& (T - 1#64), zs ++ [i], updI f i 3, (by first | rfl | rw [hand]), HM8, HR6, fun j hj => ?_, HT6, HB6⟩
            unfold updI
            by_cases hji : j = i
            · rw [if_pos hji, if_pos (by rw [hji]; exact List.mem_append_right _ (List.mem_cons_self ..))]
            · rw [if_neg hji, HF.out j hj]
              by_cases hjz : j ∈ zs
              · rw [if_pos hjz, if_pos (List.mem_append_left _ hjz)]
              · rw [if_neg hjz, if_neg fun h => by
                  rcases List.mem_append.1 h with h | h
                  · exact hjz h
                  · exact hji (List.mem_singleton.1 h)]
          case measure =>
            show Int.toNat _ < Int.toNat _
            rw [HAND2.out]
            show ((T &&& (T - 1#64)).toNat : Int).toNat < ((T.toNat : Int)).toNat
            rw [Int.toNat_natCast, Int.toNat_natCast]
            exact hlt
    · go_wp2_with fail
      go_ret
      refine ⟨b, rfl, HBK.out, ?_, HB0.out⟩
      have e : rowF N f0 = labV N c := rowF_congr fun j hj => (HF0.out j hj).trans (labTo_end c j)
      rw [← e]
      exact HR0.out
end Go.Proofs.YtfiaoibfejginaaDoor

namespace Go.Proofs.YtfiaoibfejginaaDoor
set_option linter.unusedVariables false
set_option linter.unusedSimpArgs false
open Go Go.RowKit Go.Sort

set_option maxRecDepth 100000 in
set_option maxHeartbeats 1000000 in
/-- slices.Compare of two lists of ints. -/
theorem slCompareI_same (v1 v2 : Value) (xs ys : List Int) (w : World) (h1 : IL w v1 xs) (h2 : IL w v2 ys) (hn : xs.length ≤ 1000000) (hm : ys.length ≤ 1000000) :
    Calls Tryd.prog 43 #[v1, v2] w fun e w' => e = .returned (.int .i64 (cmpF xs ys)) ∧ w' = w := by
  obtain ⟨a1, c1, rfl, k1⟩ := h1.form
  obtain ⟨a2, c2, rfl, k2⟩ := h2.form
  have K1 := hidIt k1
  have K2 := hidIt k2
  clear k1 k2 h1 h2
  have HV : Hid (cmpF xs ys = cmpF (xs.drop 0) (ys.drop 0)) := (rfl : _ = _)
  generalize cmpF xs ys = V at *
  obtain ⟨L, hL⟩ : ∃ L, L = ys.length := ⟨_, rfl⟩
  have HY := hidIt hL
  rw [← hL] at hm ⊢
  obtain ⟨M, hM⟩ : ∃ M, M = xs.length := ⟨_, rfl⟩
  have HX := hidIt hM
  rw [← hM] at hn ⊢
  clear hL hM
  go_enter Tryd.func43, Tryd.ntmps43
  go_wp2_with fail
  go_loopw [5, 6, 7, 8, 11] (fun _ _ _ _ i wr => ∃ k : Nat, k ≤ M ∧ k ≤ L ∧ i = .int .i64 k ∧ wr = w ∧ Hid (V = cmpF (xs.drop k) (ys.drop k))) (fun _ _ _ _ i _ => M - (intOf i).toNat)
  case atStart => exact ⟨0, Nat.zero_le _, Nat.zero_le _, (by first | rfl | trivial), (by first | rfl | trivial), HV.out⟩
  case round =>
    clear HV
    obtain ⟨k, hk, hkl, rfl, rfl, HT⟩ := hrel
    have hkI0 : (0 : Int) ≤ (k : Int) := by omega
    by_cases hlt : k < M
    · have hkI : (k : Int) < (M : Int) := by omega
      have h1x : k < xs.length := by rw [← HX.out]; exact hlt
      obtain ⟨b1, o1, rfl, l1, p0⟩ := K1.out k h1x
      by_cases hle : k < L
      rotate_left
      · obtain rfl : k = L := by omega
        have HE : Hid (V = 1) := HT.out.trans (cmpF_end2 h1x HY.out)
        generalize xs[k] = x at *
        clear h1x HT
        have hge : (k : Int) ≤ (k : Int) := Int.le_refl _
        go_wp2_with fail
        go_ret
        exact ⟨ret_int HE.out.symm, rfl⟩
      have hkL : (k : Int) < (L : Int) := by omega
      have hkL2 : ¬ (L : Int) ≤ (k : Int) := by omega
      have h1y : k < ys.length := by rw [← HY.out]; exact hle
      obtain ⟨b2, o2, rfl, l2, q0⟩ := K2.out k h1y
      have HS := hidIt (HT.out.trans (cmpF_step h1x h1y))
      generalize xs[k] = x at *
      generalize ys[k] = y at *
      clear h1x h1y HT
      by_cases hlt1 : x < y
      · have HE : Hid (V = -1) := by show _ = _; rw [HS.out, if_pos hlt1]
        have HC : Hid (Lib.compareInt x y = -1) := by show _ = _; unfold Lib.compareInt; simp [hlt1]
        clear hlt1 HS
        go_wp2_with fail
        refine (Tryd.cmp_Compare_int x y _).mono ?_
        rw [HC.out]
        rintro e w' ⟨rfl, rfl⟩
        go_wp2_with fail
        go_ret
        exact ⟨ret_int HE.out.symm, rfl⟩
      · by_cases hlt2 : y < x
        · have HE : Hid (V = 1) := by show _ = _; rw [HS.out, if_neg hlt1, if_pos hlt2]
          have HC : Hid (Lib.compareInt x y = 1) := by show _ = _; unfold Lib.compareInt; simp [hlt1, hlt2]
          clear hlt1 hlt2 HS
          go_wp2_with fail
          refine (Tryd.cmp_Compare_int x y _).mono ?_
          rw [HC.out]
          rintro e w' ⟨rfl, rfl⟩
          go_wp2_with fail
          go_ret
          exact ⟨ret_int HE.out.symm, rfl⟩
        · have HE : Hid (V = cmpF (xs.drop (k + 1)) (ys.drop (k + 1))) := by show _ = _; rw [HS.out, if_neg hlt1, if_neg hlt2]
          have HC : Hid (Lib.compareInt x y = 0) := by show _ = _; unfold Lib.compareInt; simp [hlt1, hlt2]
          clear hlt1 hlt2 HS
          go_wp2_with fail
          refine (Tryd.cmp_Compare_int x y _).mono ?_
          rw [HC.out]
          rintro e w' ⟨rfl, rfl⟩
          go_wp2_with fail
          go_roundw
          case rel => exact ⟨k + 1, by omega, by omega, by go_num, (by first | rfl | trivial), HE.out⟩
          case measure => simp [intOf]; omega
    · obtain rfl : k = M := by omega
      have hkI : ¬ (k : Int) < (k : Int) := by omega
      by_cases hle : k < L
      · have hkL : (k : Int) < (L : Int) := by omega
        have HE : Hid (V = -1) := HT.out.trans (cmpF_end1 HX.out (by rw [← HY.out]; exact hle))
        go_wp2_with fail
        go_ret
        exact ⟨ret_int HE.out.symm, rfl⟩
      · obtain rfl : k = L := by omega
        have HE : Hid (V = 0) := HT.out.trans (cmpF_end3 HX.out HY.out)
        go_wp2_with fail
        go_ret
        exact ⟨ret_int HE.out.symm, rfl⟩

set_option maxRecDepth 100000 in
set_option maxHeartbeats 1000000 in
theorem lCompare_same (v1 v2 : Value) (xs ys : List Int) (w : World) (h1 : IL w v1 xs) (h2 : IL w v2 ys) (hn : xs.length ≤ 1000000) (hm : ys.length ≤ 1000000) :
    Calls Tryd.prog 24 #[v1, v2] w fun e w' => e = .returned (.int .i64 (cmpF xs ys)) ∧ w' = w := by
  have H1 := hidIt h1
  have H2 := hidIt h2
  obtain ⟨a1, c1, rfl, -⟩ := h1.form
  obtain ⟨a2, c2, rfl, -⟩ := h2.form
  clear h1 h2
  go_enter Tryd.func24, Tryd.ntmps24
  go_wp2_with fail
  refine (slCompareI_same _ _ xs ys _ H1.out H2.out hn hm).mono ?_
  rintro e w' ⟨rfl, rfl⟩
  go_wp2_with fail
  go_ret
  exact ⟨rfl, rfl⟩

theorem cmpF_zero : ∀ (xs ys : List Int), cmpF xs ys = 0 → xs = ys
  | [], [], _ => rfl
  | [], _ :: _, h => absurd (show (-1 : Int) = 0 from h) (by decide)
  | _ :: _, [], h => absurd (show (1 : Int) = 0 from h) (by decide)
  | x :: r, y :: s, h => by
    have h' : (if x < y then -1 else if y < x then 1 else cmpF r s) = 0 := h
    by_cases h1 : x < y
    · rw [if_pos h1] at h'; exact absurd h' (by decide)
    · by_cases h2 : y < x
      · rw [if_neg h1, if_pos h2] at h'; exact absurd h' (by decide)
      · rw [if_neg h1, if_neg h2] at h'
        rw [cmpF_zero r s h', show x = y by omega]
theorem cmpF_refl : ∀ xs : List Int, cmpF xs xs = 0
  | [] => rfl
  | x :: r => by
    show (if x < x then -1 else if x < x then 1 else cmpF r r) = 0
    rw [if_neg (by omega), if_neg (by omega), cmpF_refl r]
theorem cmpF_trans : ∀ (xs ys zs : List Int), cmpF xs ys < 0 → cmpF ys zs < 0 → cmpF xs zs < 0
  | [], [], _, h, _ => absurd (show (0 : Int) < 0 from h) (by decide)
  | [], _ :: _, [], _, h => absurd (show (1 : Int) < 0 from h) (by decide)
  | [], _ :: _, _ :: _, _, _ => by show (-1 : Int) < 0; decide
  | _ :: _, [], _, h, _ => absurd (show (1 : Int) < 0 from h) (by decide)
  | _ :: _, _ :: _, [], _, h => absurd (show (1 : Int) < 0 from h) (by decide)
  | x :: r, y :: s, z :: t, h, k => by
    have ih := cmpF_trans r s t
    have h' : (if x < y then -1 else if y < x then 1 else cmpF r s) < 0 := h
    have k' : (if y < z then -1 else if z < y then 1 else cmpF s t) < 0 := k
    show (if x < z then -1 else if z < x then 1 else cmpF r t) < 0
    by_cases h1 : x < y
    · by_cases k1 : y < z
      · rw [if_pos (by omega)]; decide
      · by_cases k2 : z < y
        · rw [if_neg k1, if_pos k2] at k'; exact absurd k' (by decide)
        · rw [if_pos (by omega)]; decide
    · by_cases h2 : y < x
      · rw [if_neg h1, if_pos h2] at h'; exact absurd h' (by decide)
      · rw [if_neg h1, if_neg h2] at h'
        by_cases k1 : y < z
        · rw [if_pos (by omega)]; decide
        · by_cases k2 : z < y
          · rw [if_neg k1, if_pos k2] at k'; exact absurd k' (by decide)
          · rw [if_neg k1, if_neg k2] at k'
            rw [if_neg (by omega), if_neg (by omega)]
            exact ih h' k'
theorem cmpF_ntrans (xs ys zs : List Int) (h : ¬ cmpF xs ys < 0) (k : ¬ cmpF ys zs < 0) : ¬ cmpF xs zs < 0 := fun hl => by
  by_cases h0 : cmpF xs ys = 0
  · rw [cmpF_zero _ _ h0] at hl
    exact k hl
  · have h1 : cmpF ys xs < 0 := by rw [cmpF_neg xs ys]; omega
    exact k (cmpF_trans _ _ _ h1 hl)
/-- A row of lists that may be stored into. -/
structure RowL (w : World) (B b cap : Nat) (vals : List Value) (zss : List (List Int)) : Prop where
  lo : B ≤ b
  lt : b < w.heap.size
  c1 : zss.length ≤ cap
  c2 : cap ≤ maxLen
  len : vals.length = zss.length
  cell : ∀ i (h : i < vals.length), w.cell? ⟨b, i, none⟩ = some vals[i] ∧ w.frozen? ⟨b, i, none⟩ = false
  il : ∀ i (h : i < vals.length) (h' : i < zss.length), OwnI w B vals[i] zss[i] ∧ vals[i].ownBlock ≠ some b
theorem RowL.ll {w : World} {B b cap : Nat} {vals : List Value} {zss : List (List Int)} (h : RowL w B b cap vals zss) : LL w (.slice (some ⟨b, 0, none⟩) zss.length cap) zss :=
  .inr ⟨b, 0, cap, rfl, h.c1, h.c2, h.lt, fun i hi => ⟨vals[i]'(by rw [h.len]; exact hi), by rw [Nat.zero_add]; exact (h.cell i (by rw [h.len]; exact hi)).1, (h.il i (by rw [h.len]; exact hi) hi).1.il⟩⟩
/-- A list of lists that was sorted. -/
def Srt (w : World) (B : Nat) (v : Value) (zss : List (List Int)) : Prop := (zss = [] ∧ (∃ a c, v = .slice a 0 c) ∧ LL w v zss) ∨ ∃ b cap vals, v = .slice (some ⟨b, 0, none⟩) zss.length cap ∧ RowL w B b cap vals zss
theorem Srt.ll {w : World} {B : Nat} {v : Value} {zss : List (List Int)} (h : Srt w B v zss) : LL w v zss := by
  rcases h with ⟨-, -, h⟩ | ⟨b, cap, vals, rfl, h⟩
  · exact h
  · exact h.ll
theorem oneI_shape {w : World} {B : Nat} {v : Value} {zs : List Int} (h : OwnI w B v zs) : v.oneCell' = true := by
  obtain ⟨a, c, rfl, -, -⟩ := shape_own h
  rfl

set_option maxRecDepth 100000 in
set_option maxHeartbeats 2000000 in
theorem sortII_any (B : Nat) (v : Value) (zss sorted : List (List Int)) (w : World) (h : OwnLL w B v zss) (hB : B ≤ w.heap.size) (hn : zss.length ≤ 1000) (hl : ∀ z ∈ zss, z.length ≤ 1000) (hp : sorted.Perm zss) (hs : sorted.Pairwise fun x y => cmpF x y < 0) :
    Calls Tryd.prog 50 #[v, .func (.func 24) #[] #[]] w fun e w' => e = .returned (.tuple #[]) ∧ Srt w' B v sorted ∧ Below B w w' := by
  obtain ⟨vals, hown, hvl, hel⟩ := h
  by_cases hz : zss = []
  · subst hz
    have hsn : sorted = [] := List.perm_nil.1 hp
    subst hsn
    obtain ⟨a, c, rfl, h1, h2⟩ := shape_own hown
    refine (Tryd.slices_SortFunc_none (α := Nat) a c _ w).mono ?_
    rintro e w' ⟨rfl, rfl⟩
    refine ⟨rfl, .inl ⟨rfl, ⟨a, c, rfl⟩, ?_⟩, Below.refl _ _⟩
    rcases hown.2 with ⟨h0, -⟩ | ⟨g, cap, cur, h0, -, hg, hnc, hcm, -⟩
    · exact .inl ⟨h0, rfl⟩
    · exact .inr ⟨g, 0, cap, h0, hnc, hcm, lt_of_block hg, fun i hi => by simp at hi⟩
  · rcases hown.2 with ⟨-, h0⟩ | ⟨g, cap, cur, rfl, hBg, hg, hnc, hcm, hcs, htk⟩
    · exact absurd (List.eq_nil_of_length_eq_zero h0) hz
    have hpos : 0 < zss.length := List.length_pos_iff.2 hz
    haveI : Inhabited (Fin zss.length) := ⟨⟨0, hpos⟩⟩
    have hval : ∀ i (hi : i < zss.length), OwnI w B (vals[i]'(by rw [hvl]; exact hi)) zss[i] := fun i hi => by
      obtain ⟨u, hu, ho⟩ := hel i hi
      rw [List.getElem?_eq_getElem (by rw [hvl]; exact hi)] at hu
      injection hu with hu
      rw [hu]; exact ho
    let enc : Fin zss.length → Value := fun i => vals[i.val]'(by rw [hvl]; exact i.isLt)
    let cf : Fin zss.length → Fin zss.length → Int := fun i j => cmpF zss[i.val] zss[j.val]
    have hone : OneCell enc := fun i => oneI_shape (hval i.val i.isLt)
    have hne : ∀ i (hi : i < zss.length), (vals[i]'(by rw [hvl]; exact hi)).ownBlock ≠ some g := fun i hi e => blk_types hown (hval i hi) (by decide) rfl e
    have hnd : sorted.Nodup := hs.imp fun {a b} hab e => by subst e; rw [cmpF_refl] at hab; exact absurd hab (by decide)
    have hndz : zss.Nodup := hp.nodup_iff.1 hnd
    have hswo : SWO (ltOf cf) := ⟨fun x => by
        show decide (cmpF _ _ < 0) = false
        rw [cmpF_refl]; rfl, fun x y z h k => by
        have h := of_decide_eq_true h
        have k := of_decide_eq_true k
        exact decide_eq_true (cmpF_trans _ _ _ h k), fun x y z h k => by
        have h := of_decide_eq_false h
        have k := of_decide_eq_false k
        exact decide_eq_false (cmpF_ntrans _ _ _ h k)⟩
    have htot : ∀ x y, (ltOf cf) x y = false → (ltOf cf) y x = false → x = y := fun x y h k => by
      have h : ¬ cmpF _ _ < 0 := of_decide_eq_false h
      have k : ¬ cmpF _ _ < 0 := of_decide_eq_false k
      rw [cmpF_neg zss[x.val] zss[y.val]] at k
      have e := cmpF_zero zss[x.val] zss[y.val] (by omega)
      exact Fin.ext ((List.getElem_inj hndz).1 e)
    have hdsz : (List.finRange zss.length).toArray.size = zss.length := by simp
    have hd : ∀ j (hj : j < zss.length), (List.finRange zss.length).toArray[j]! = ⟨j, hj⟩ := fun j hj => by
      rw [List.getElem!_toArray, getElem!_pos _ j (by simpa using hj)]
      simp
    have hH : Holds enc w g 0 (List.finRange zss.length).toArray := fun j hj => by
      have hj' : j < zss.length := by simpa using hj
      rw [hd j hj', Nat.zero_add]
      refine ⟨?_, free_any hg j⟩
      exact owns_cell hown rfl j _ (List.getElem?_eq_getElem (by rw [hvl]; exact hj'))
    have eg : ∀ args w, (callFunc 24 args).run Tryd.prog w = .ok (.enter 24 args) w := enters_of Tryd.func24 (by kernel_rfl) rfl
    have hgl := lt_of_block hg
    have hbel : ∀ (m : Nat) (dk : Array (Fin zss.length)) (os : Array Obj), Below B w (sortWorld enc w g 0 m dk os) := fun m dk os =>
      below_grown (⟨rfl, rfl, rfl, by simp [putRow, mapBlock, Sort.ahead], fun k hk => by
        show ((Sort.ahead w m).heap.modify g _)[k]? = _
        rw [Array.getElem?_modify, if_neg (by omega)]
        rfl⟩ : Below B w (putRow enc (Sort.ahead w m) g 0 dk)) (by simp [putRow, mapBlock, Sort.ahead]; omega) os
    have hkeep : ∀ (m : Nat) (dk : Array (Fin zss.length)) (os : Array Obj) (k : Nat), k < w.heap.size → k ≠ g → (sortWorld enc w g 0 m dk os).heap[k]? = w.heap[k]? := fun m dk os k hk hkg => by
      show ((putRow enc (Sort.ahead w m) g 0 dk).heap ++ os)[k]? = _
      rw [Array.getElem?_append_left (by simp [putRow, mapBlock, Sort.ahead]; exact hk)]
      show ((Sort.ahead w m).heap.modify g _)[k]? = _
      rw [Array.getElem?_modify, if_neg (by omega)]
      rfl
    have hval2 : ∀ (m : Nat) (dk : Array (Fin zss.length)) (os : Array Obj) i (hi : i < zss.length), OwnI (sortWorld enc w g 0 m dk os) B (vals[i]'(by rw [hvl]; exact hi)) zss[i] := fun m dk os i hi =>
      owns_kept (hval i hi) fun q e => hkeep m dk os q (owns_blk (hval i hi) q e).2 (fun e2 => hne i hi (by rw [e, e2]))
    have hcmp : CmpLays1 Tryd.prog 24 #[] enc cf g 0 (List.finRange zss.length).toArray.size w := fun m os dk hsz x y =>
      (lCompare_same _ _ zss[x.val] zss[y.val] _ (hval2 m dk os x.val x.isLt).il (hval2 m dk os y.val y.isLt).il (by have := hl _ (List.getElem_mem x.isLt); omega) (by have := hl _ (List.getElem_mem y.isLt); omega)).mono fun e w' ⟨he, hw⟩ => ⟨he, 0, #[], by rw [hw]; simp [Sort.grow, World.drewN]⟩
    have h := Tryd.slices_SortFunc_total enc hone cf hswo 24 #[] g 0 cap _ w eg hcmp hH hgl (by rw [hdsz]; omega) htot
    rw [hdsz] at h
    refine h.mono ?_
    rintro e w' ⟨rfl, m, os, rfl⟩
    have hpp := List.mergeSort_perm (List.finRange zss.length).toArray.toList (fun x y => !(ltOf cf) y x)
    have hps := List.pairwise_mergeSort (le := fun x y => !(ltOf cf) y x) (fun a b c h k => by
      simp only [Bool.not_eq_true'] at h k ⊢
      exact hswo.ntrans _ _ _ k h) (fun a b => by
      by_cases hab : (ltOf cf) b a = true
      · have : (ltOf cf) a b = false := by
          by_cases hba : (ltOf cf) a b = true
          · exact absurd ((hswo.irrefl a).symm.trans (hswo.trans _ _ _ hba hab)) (by decide)
          · exact Bool.eq_false_iff.2 hba
        simp [hab, this]
      · simp [Bool.eq_false_iff.2 hab]) (List.finRange zss.length).toArray.toList
    generalize (List.finRange zss.length).toArray.toList.mergeSort (fun x y => !(ltOf cf) y x) = p at hpp hps ⊢
    have hpl : p.length = zss.length := by rw [hpp.length_eq]; simp
    have hmap : p.map (fun i => zss[i.val]) = sorted := by
      have h1 : (p.map (fun i => zss[i.val])).Perm sorted := by
        refine List.Perm.trans ?_ hp.symm
        have h2 := hpp.map (fun i : Fin zss.length => zss[i.val])
        refine h2.trans ?_
        have e : (List.finRange zss.length).toArray.toList.map (fun i : Fin zss.length => zss[i.val]) = zss := by
          apply List.ext_getElem
          · simp
          · intro i h1 h2
            simp
        rw [e]
      refine List.Perm.eq_of_pairwise (le := fun x y => ¬ cmpF y x < 0) (fun a b _ _ h k => ?_) ?_ ?_ h1
      · rw [cmpF_neg a b] at h
        exact cmpF_zero a b (by omega)
      · rw [List.pairwise_map]
        refine hps.imp fun {a b} h => ?_
        have h : (ltOf cf) b a = false := by simpa using h
        exact of_decide_eq_false h
      · refine hs.imp fun {a b} h k => ?_
        rw [cmpF_neg a b] at k
        omega
    refine ⟨rfl, .inr ⟨g, cap, p.map enc, ?_, ?_⟩, hbel m _ os⟩
    · rw [hp.length_eq]
    have hHp := holds_grow enc _ os g 0 p.toArray (by simp [putRow, mapBlock, Sort.ahead]; omega) (holds_putRow enc (Sort.ahead w m) g 0 _ p.toArray (holds_ahead enc w m g 0 _ hH) (by rw [hdsz]; simpa using hpl))
    refine ⟨hBg, ?_, by rw [hp.length_eq]; exact hnc, hcm, by rw [List.length_map, hpl, hp.length_eq], fun i hi => ?_, fun i hi hi' => ?_⟩
    · exact Nat.lt_of_lt_of_le hgl (hbel m _ os).size
    · have hip : i < p.length := by simpa using hi
      have := hHp i (by simpa using hip)
      rw [Nat.zero_add, List.getElem!_toArray, getElem!_pos p i hip] at this
      rw [List.getElem_map]
      exact this
    · have hip : i < p.length := by simpa using hi
      have e2 : sorted[i] = zss[(p[i]).val] := by
        subst hmap
        rw [List.getElem_map]
      rw [List.getElem_map, e2]
      exact ⟨hval2 m _ os _ (p[i]).isLt, hne _ (p[i]).isLt⟩
end Go.Proofs.YtfiaoibfejginaaDoor

namespace Go.Proofs.YtfiaoibfejginaaDoor
set_option linter.unusedVariables false
set_option linter.unusedSimpArgs false
open Go Go.RowKit Go.Sort

theorem labV_len (N : Nat) (c : Cn) : (labV N c).length = N := rowF_len N _
theorem IR.own {w : World} {B b : Nat} {zs : List Int} {n : Nat} (h : IR w b zs) (hB : B ≤ b) (hl : zs.length = n) (hn : n ≤ 1000000) : OwnI w B (.slice (some ⟨b, 0, none⟩) n n) zs := by
  subst hl
  refine ⟨by simp, .inr ⟨b, zs.length, _, rfl, hB, h, Nat.le_refl _, by unfold maxLen; omega, by rw [intRow_size, Nat.mul_one], ?_⟩⟩
  simp [intRow, List.take_of_length_le]
theorem OwnI.base14 {w : World} {B B' : Nat} {v : Value} {zs : List Int} (h : OwnI w B v zs) (hB : B' ≤ B) : OwnI w B' v zs := by
  refine ⟨h.1, ?_⟩
  rcases h.2 with h0 | ⟨g, cap, cur, hv, hBg, h2⟩
  · exact .inl h0
  · exact .inr ⟨g, cap, cur, hv, Nat.le_trans hB hBg, h2⟩
theorem Srt.base {w : World} {B B' : Nat} {v : Value} {zss : List (List Int)} (h : Srt w B v zss) (hB : B' ≤ B) : Srt w B' v zss := by
  rcases h with h | ⟨b, cap, vals, h1, h⟩
  · exact .inl h
  · exact .inr ⟨b, cap, vals, h1, Nat.le_trans hB h.lo, h.lt, h.c1, h.c2, h.len, h.cell, fun i hi hi' => ⟨(h.il i hi hi').1.base14 hB, (h.il i hi hi').2⟩⟩
theorem FsW.cell {w : World} {P g cap L : Nat} {fs : List Cn} (h : FsW w P (.slice (some ⟨g, 0, none⟩) L cap) fs) {k : Nat} (hk : k < fs.length) :
    w.cell? ⟨g, k * 4, none⟩ = some (.int .u64 0) ∧ w.cell? ⟨g, k * 4 + 1, none⟩ = some (bv fs[k].i) ∧ w.cell? ⟨g, k * 4 + 2, none⟩ = some (bv fs[k].o) ∧ w.cell? ⟨g, k * 4 + 3, none⟩ = some (bv fs[k].u) := by
  have hc := World.ownsRow.cells h (g := g) rfl
  have hf := fun j hj => flat_get encC 4 (fun _ => rfl) fs k j hk hj
  have e : ∀ j, ((⟨g, 0, none⟩ : Addr).add j) = ⟨g, j, none⟩ := fun j => by rw [add_plain9, Nat.zero_add]
  refine ⟨?_, ?_, ?_, ?_⟩
  · rw [← e]; exact hc _ _ ((hf 0 (by omega)).trans rfl)
  · rw [← e]; exact hc _ _ ((hf 1 (by omega)).trans rfl)
  · rw [← e]; exact hc _ _ ((hf 2 (by omega)).trans rfl)
  · rw [← e]; exact hc _ _ ((hf 3 (by omega)).trans rfl)
/-- Two labellings with the same labels are one. -/
theorem labF_inj {V : BitVec 64} {c d : Cn} (hc : Tot V c) (hd : Tot V d) (h : ∀ j, V.getLsbD j = true → labF c j = labF d j) : c = d := by
  have key : ∀ (x y : Cn), Tot V x → Tot V y → (∀ j, V.getLsbD j = true → labF x j = labF y j) → SubC x y := fun x y hx hy hxy => by
    refine ⟨fun j hj => ?_, fun j hj => ?_, fun j hj => ?_⟩
    · have hv := (hx.all j).2 (.inl hj)
      have e := hxy j hv
      have e1 : labF x j = 1 := by unfold labF; rw [if_neg (hx.iu j hj), if_neg (hx.io j hj), if_pos hj]
      rw [e1] at e
      rcases (hy.all j).1 hv with h1 | h1 | h1
      · exact h1
      · exfalso; unfold labF at e; rw [if_neg (hy.ou j h1), if_pos h1] at e; cases e
      · exfalso; unfold labF at e; rw [if_pos h1] at e; cases e
    · have hv := (hx.all j).2 (.inr (.inl hj))
      have e := hxy j hv
      have e1 : labF x j = 2 := by unfold labF; rw [if_neg (hx.ou j hj), if_pos hj]
      rw [e1] at e
      rcases (hy.all j).1 hv with h1 | h1 | h1
      · exfalso; unfold labF at e; rw [if_neg (hy.iu j h1), if_neg (hy.io j h1), if_pos h1] at e; cases e
      · exact h1
      · exfalso; unfold labF at e; rw [if_pos h1] at e; cases e
    · have hv := (hx.all j).2 (.inr (.inr hj))
      have e := hxy j hv
      have e1 : labF x j = 3 := by unfold labF; rw [if_pos hj]
      rw [e1] at e
      rcases (hy.all j).1 hv with h1 | h1 | h1
      · exfalso; unfold labF at e; rw [if_neg (hy.iu j h1), if_neg (hy.io j h1), if_pos h1] at e; cases e
      · exfalso; unfold labF at e; rw [if_neg (hy.ou j h1), if_pos h1] at e; cases e
      · exact h1
  exact (key c d hc hd h).anti (key d c hd hc fun j hj => (h j hj).symm)
theorem labV_inj {N : Nat} {V : BitVec 64} {c d : Cn} (hN : ∀ j, V.getLsbD j = true → j < N) (hc : Tot V c) (hd : Tot V d) (h : labV N c = labV N d) : c = d := labF_inj hc hd fun j hj => by
  have e := congrArg (fun l : List Int => l[j]?) h
  unfold labV rowF at e
  simpa [hN j hj] using e
/-- The list in order. -/
theorem order_ex {l : List (List Int)} (h : l.Nodup) : ∃ s : List (List Int), s.Perm l ∧ s.Pairwise fun x y => cmpF x y < 0 := by
  have hp := List.mergeSort_perm l (fun x y => !decide (cmpF y x < 0))
  have hs := List.pairwise_mergeSort (le := fun x y => !decide (cmpF y x < 0)) (fun a b c h k => by
    simp only [Bool.not_eq_true', decide_eq_false_iff_not] at h k ⊢
    exact cmpF_ntrans _ _ _ k h) (fun a b => by
    by_cases hab : cmpF b a < 0
    · have : ¬ cmpF a b < 0 := by rw [cmpF_neg b a]; omega
      simp [this]
    · simp [hab]) l
  refine ⟨_, hp, ?_⟩
  have hn : (l.mergeSort fun x y => !decide (cmpF y x < 0)).Nodup := hp.nodup_iff.2 h
  refine (hs.and hn).imp fun {a b} ⟨h1, h2⟩ => ?_
  have h1 : ¬ cmpF b a < 0 := by simpa using h1
  rw [cmpF_neg a b] at h1
  rcases Int.lt_or_le (cmpF a b) 0 with h | h
  · exact h
  · exact absurd (cmpF_zero a b (by omega)) h2

set_option maxRecDepth 100000 in
set_option maxHeartbeats 4000000 in
theorem sRun_any (P N : Nat) (n : BitVec 64) (A : Nat → BitVec 64) (c : Cn) (w : World) (h : SrW w P n A c (.slice none 0 0) false) (hT : Tab w) (hg : 0 < P) (hN : N ≤ 40)
    (hn : ∀ k, n.getLsbD k = true → k < N) (hA : ∀ k, n.getLsbD k = true → SubB (A k) n) (hc : SubB (c.i ||| c.o ||| c.u) n) :
    Calls Tryd.prog 34 #[.pointer (some ⟨P, 0, none⟩), .int .i64 (N : Int)] w fun e w' => ButP P w w' ∧
      ((∃ (v : Value) (ls : List Cn) (sorted : List (List Int)), e = .returned (.tuple #[v, .int .i64 0]) ∧ Sols A n c ls ∧ ls.length ≤ 200 ∧ sorted.Perm (ls.map (labV N)) ∧ sorted.Pairwise (fun x y => cmpF x y < 0) ∧ Srt w' w.heap.size v sorted) ∨
       (e = .returned (.tuple #[.slice none 0 0, .int .i64 2]) ∧ ∃ ls, SomeS A n c ls ∧ 200 < ls.length)) := by
  have HT := hidIt hT
  have HN := hidIt hn
  have HC := hidIt hc
  have HDS := hidIt (sDescend_any P n A hg (fun k hk => Nat.lt_of_lt_of_le (hn k hk) hN) hA (c.mu + 1) c (.slice none 0 0) [] w (Nat.lt_succ_self _) h (FsW.nil w P) hT (by decide) hc)
  have HP := hidIt h.lt
  clear h hT hn hA hc
  go_enter Tryd.func34, Tryd.ntmps34
  go_wp2_with fail
  refine HDS.out.mono ?_
  rintro e w2 ⟨c2, vf, fs, t, rfl, hd, hf, hk, ho⟩
  have HB2 : Hid (ButP P w w2) := ⟨hk.os, hk.tape, hk.output, hk.size, fun k h1 h2 => hk.block k h1 h2 (fun e => by cases e)⟩
  have HT2 := hidIt (HT.out.but HB2.out hg (Nat.le_of_lt HP.out))
  have HF2 := hidIt hf
  have HO2 := hidIt ho
  have HD2 := hidIt hd
  have ct := hd.ct
  have cf := hd.cf
  have lP := hd.lt
  clear hd hf hk ho HDS
  cases t
  · obtain ⟨hfl, hof⟩ := HO2.out
    have HSO : Hid (Sols A n c fs) := by
      rcases hof with ⟨-, ls, h1, h2⟩ | ⟨h1, -⟩
      · rw [List.nil_append] at h2
        rw [h2]; exact h1
      · cases h1
    have HFL := hidIt hfl
    clear hof hfl HO2
    obtain ⟨a, cc, rfl, -, -⟩ := shape_own HF2.out
    obtain ⟨L, hL⟩ : ∃ L, L = fs.length := ⟨_, rfl⟩
    have HLL := hidIt hL
    rw [← hL] at HF2 HD2 HFL cf
    have hL200 : L ≤ 200 := HFL.out
    clear hL
    go_wp2_with fail
    clear ct cf lP
    go_loopw [6, 20] (fun v6 v20 wr => ∃ (k : Nat) (b : Option Addr) (d : Nat), k ≤ L ∧ v20 = .int .i64 k ∧ v6 = .slice b k d ∧ Hid (OwnLL wr w2.heap.size (.slice b k d) ((fs.take k).map (labV N))) ∧ Hid (Below w2.heap.size w2 wr)) (fun _ v20 _ => L - (intOf v20).toNat)
    case atStart => exact ⟨0, none, 0, Nat.zero_le _, rfl, rfl, OwnLL.nil _ _, Below.refl _ _⟩
    case round =>
      obtain ⟨k, b, d, hk, rfl, rfl, HL, HBr⟩ := hrel
      have hk0 : (0 : Int) ≤ (k : Int) := by omega
      by_cases hlt : k < L
      · have hkI : (k : Int) < (L : Int) := by omega
        have hkf : k < fs.length := by have := HLL.out; omega
        obtain ⟨g, rfl, lg⟩ : ∃ g, a = some ⟨g, 0, none⟩ ∧ g < w2.heap.size := by
          rcases HF2.out.2 with ⟨-, h0⟩ | ⟨g, cap, cur, hv, -, hg, -⟩
          · omega
          · injection hv with hv
            exact ⟨g, hv, lt_of_block hg⟩
        obtain ⟨y0, y1, y2, y3⟩ := HF2.out.cell hkf
        have z0 := (Below.cell (p := ⟨g, k * 4, none⟩) HBr.out lg).trans y0
        have z1 := (Below.cell (p := ⟨g, k * 4 + 1, none⟩) HBr.out lg).trans y1
        have z2 := (Below.cell (p := ⟨g, k * 4 + 2, none⟩) HBr.out lg).trans y2
        have z3 := (Below.cell (p := ⟨g, k * 4 + 3, none⟩) HBr.out lg).trans y3
        have lg2 := Nat.lt_of_lt_of_le lg HBr.out.size
        have HTK : Hid ((fs.take (k + 1)).map (labV N) = (fs.take k).map (labV N) ++ [labV N fs[k]]) := by
          show _ = _
          rw [List.take_succ_eq_append_getElem hkf, List.map_append]
          rfl
        have HTL : Hid (((fs.take k).map (labV N)).length = k) := by
          show _ = _
          rw [List.length_map, List.length_take]
          omega
        have hsub := ((HSO.out.2 fs[k]).1 (List.getElem_mem hkf)).2.2
        have HSI : Hid (∀ j, fs[k].i.getLsbD j = true → j < N) := fun j hj => HN.out j (HC.out j (bit_or.2 (.inl (bit_or.2 (.inl (hsub.i j hj))))))
        have HSJ : Hid (∀ j, fs[k].o.getLsbD j = true → j < N) := fun j hj => HN.out j (HC.out j (bit_or.2 (.inl (bit_or.2 (.inr (hsub.o j hj))))))
        have HSU : Hid (∀ j, fs[k].u.getLsbD j = true → j < N) := fun j hj => HN.out j (HC.out j (bit_or.2 (.inr (hsub.u j hj))))
        clear hsub y0 y1 y2 y3
        generalize fs[k] = s at *
        clear hkf
        go_upto_region 8 with (fail)
        have hg4 := bgrow wr (.cells #[.int .u64 0, bv s.i, bv s.o, bv s.u] 57)
        have HX4 := hidIt (heap_alloc_new wr (.cells #[.int .u64 0, bv s.i, bv s.o, bv s.u] 57))
        have HL4 := hidIt (HL.out.go hg4)
        have HB4 := hidIt (HBr.out.trans (Below.mono hg4 HBr.out.size))
        clear hg4 z0 z1 z2 z3 lg2
        generalize (wr.alloc (.cells #[.int .u64 0, bv s.i, bv s.o, bv s.u] 57)) = w4 at *
        obtain ⟨q, hq⟩ : ∃ q, q = wr.heap.size := ⟨_, rfl⟩
        rw [← hq] at HX4 ⊢
        clear hq
        obtain ⟨x0, x1, x2, x3⟩ := cells4 HX4.out
        have lx := lt_of_block HX4.out
        have HT4 := hidIt (HT2.out.go HB4.out)
        go_wp2_with fail
        refine (sList_any N hN s _ HT4.out HSI.out HSJ.out HSU.out).mono ?_
        rintro e w5 ⟨b5, rfl, hb5, hir5, hbl5⟩
        have HO5 : Hid (OwnI w5 w2.heap.size (.slice (some ⟨b5, 0, none⟩) N N) (labV N s)) := hir5.own (Nat.le_trans HB4.out.size hb5) (labV_len N s) (by omega)
        have HL5 := hidIt (HL4.out.go hbl5)
        have HB5 := hidIt (HB4.out.trans (Below.mono hbl5 HB4.out.size))
        clear x0 x1 x2 x3 lx hb5 hir5 hbl5 HX4 HL4 HB4 HT4
        have hgr6 := bgrow w5 (.cells #[.slice (some ⟨b5, 0, none⟩) N N] 25)
        have HO6 := hidIt (HO5.out.go hgr6)
        have HL6 := hidIt (HL5.out.go hgr6)
        have HB6 := hidIt (HB5.out.trans (Below.mono hgr6 HB5.out.size))
        have hsz6 : w2.heap.size ≤ (w5.alloc (.cells #[.slice (some ⟨b5, 0, none⟩) N N] 25)).heap.size := HB6.out.size
        obtain ⟨vals, hv1, hv2, hv3⟩ := HL6.out
        have HV1 : Hid (World.ownsRow (w5.alloc (.cells #[.slice (some ⟨b5, 0, none⟩) N N] 25)) w2.heap.size 25 1 (.slice b k d) k vals) := by
          rw [HTL.out] at hv1
          exact hv1
        have HV2 := hidIt hv2
        have HV3 := hidIt hv3
        clear hgr6 hv1 hv2 hv3 HO5 HL5 HB5 HBr HL
        go_wp2_with (at_builtin; refine Hid.out ?_)
        refine hidIt ?_
        refine wpList_append_kb rfl (.tmp 24) (.tmp 28) elemLL rfl w2.heap.size (.slice b k d) k _ rfl HV1.out _ 1 rfl #[.slice (some ⟨b5, 0, none⟩) N N] 25 (heap_alloc_new _ _) rfl (one_of (by rfl)) (by omega) hsz6 ?_
        intro g7 c7 w7 hown7 hg7 hbl7
        have HB7 := hidIt (below_app5 HB6.out hg7 (fun g e => (owns_blk HV1.out g e).1) hsz6)
        have HO7 : Hid (OwnLL w7 w2.heap.size (.slice (some ⟨g7, 0, none⟩) (k + 1) c7) ((fs.take (k + 1)).map (labV N))) := by
          have := OwnLL.app HL6.out HO6.out vals (by rw [HTL.out]; exact HV1.out) HV2.out HV3.out (by rw [HTL.out]; exact hown7) hg7
          rw [← HTK.out] at this
          exact this
        clear hown7 hg7 hbl7 HV1 HV2 HV3 HO6 HL6 HB6 hsz6
        go_wp2_with fail
        go_roundw
        case rel => exact ⟨k + 1, some ⟨g7, 0, none⟩, c7, by omega, by go_num, rfl, HO7, HB7⟩
        case measure => simp [intOf]; omega
      · obtain rfl : k = L := by omega
        have hkI : ¬ (k : Int) < (k : Int) := by omega
        have HFA : Hid (OwnLL wr w2.heap.size (.slice b k d) (fs.map (labV N))) := by
          have := HL.out
          rw [HLL.out, List.take_length] at this
          rw [HLL.out]
          exact this
        have hnd : (fs.map (labV N)).Nodup := by
          refine List.pairwise_map.2 ?_
          have hm : ∀ s ∈ fs, Tot n s := fun s hs => ((HSO.out.2 s).1 hs).1
          refine (List.Pairwise.imp_of_mem (fun {x y} hx hy hne => ?_) HSO.out.1)
          exact fun e => hne (labV_inj HN.out (hm x hx) (hm y hy) e)
        obtain ⟨sorted, hsp, hss⟩ := order_ex hnd
        have HSP := hidIt hsp
        have HSS := hidIt hss
        have HLN : Hid ((fs.map (labV N)).length ≤ 1000) := by
          show _ ≤ _
          rw [List.length_map]
          have := HLL.out
          omega
        have HLB : Hid (∀ z ∈ fs.map (labV N), z.length ≤ 1000) := fun z hz => by
          obtain ⟨s, -, rfl⟩ := List.mem_map.1 hz
          rw [labV_len]
          omega
        clear hnd hsp hss
        go_wp2_with fail
        refine (sortII_any w2.heap.size _ (fs.map (labV N)) sorted _ HFA.out HBr.out.size HLN.out HLB.out HSP.out HSS.out).mono ?_
        rintro e w8 ⟨rfl, hsr, hb8⟩
        have HSR := hidIt hsr
        have HB8 := hidIt (HB2.out.trans (.of (HBr.out.trans hb8)))
        clear hsr hb8
        go_wp2_with fail
        refine bodyPost_ret (v := .tuple #[.slice b k d, .int .i64 0]) (by simp [results, Tryd.results34]) rfl ?_
        exact ⟨HB8.out, .inl ⟨_, fs, sorted, rfl, HSO.out, by have := HLL.out; omega, HSP.out, HSS.out, HSR.out.base HB2.out.size⟩⟩
  · go_wp2_with fail
    refine bodyPost_ret (v := .tuple #[.slice none 0 0, .int .i64 2]) (by simp [results, Tryd.results34]) rfl ?_
    refine ⟨HB2.out, .inr ⟨rfl, ?_⟩⟩
    rcases HO2.out.2 with ⟨h1, -⟩ | ⟨-, ls, h1, h2⟩
    · cases h1
    · exact ⟨ls, h1, by simpa using h2⟩
end Go.Proofs.YtfiaoibfejginaaDoor
