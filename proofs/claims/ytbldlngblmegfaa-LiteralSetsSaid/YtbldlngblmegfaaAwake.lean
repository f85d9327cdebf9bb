/- The chapter's examples (awake): what each call in it answers. -/
import Derived.Test.YtbldlngblmegfaaNormal
import Derived.Test.YtbldlngblmegfaaConsW
import Derived.RegionCalls
namespace Go.Proofs.Ytbldlngblmegfaa
open Go.RowKit Go.Sort

def lp : Lt := ⟨false, ⟨#[112]⟩⟩
def lnp : Lt := ⟨true, ⟨#[112]⟩⟩
def lq : Lt := ⟨false, ⟨#[113]⟩⟩

theorem awake_normal : nrm [lq, lnp, lq] = [lnp, lq] := by
  have h : srt [lq, lnp, lq] = [lnp, lq, lq] := srt_eq (by decide) (by decide +kernel)
  rw [nrm, h]
  decide +kernel
theorem awake_cons : consB [lp, lq, lnp] = false := by decide +kernel
theorem awake_cmp1 : cmpI lp lnp = -1 := by decide +kernel
theorem awake_cmp2 : cmpI lnp lq = -1 := by decide +kernel
theorem awake_fmt : fmtB true ⟨#[112]⟩ = ⟨#[126, 112]⟩ := by decide +kernel
theorem awake_parse : parsedErr ⟨#[126, 126, 112]⟩ = 3 := by decide +kernel

/-- A list that has just been laid. -/
theorem lits_block {w : World} {b n : Nat} {c : Array Value} (xs : List Lt) (h : w.heap[b]? = some (.cells c 23 (0, 0))) (hc : c = flatK encL 2 xs.toArray) (hn : n = xs.length) (hm : n ≤ maxLen) : LitsAt w (.slice (some ⟨b, 0, none⟩) n n) xs := by
  subst hn hc
  have hH : HoldsK encL 2 w b 0 xs.toArray := fun j hj => by
    refine ⟨?_, ?_⟩
    · simp [World.cell?, h]
      have hj' : j < xs.length * 2 := by simpa using hj
      rw [Array.getElem?_eq_getElem (by simpa using hj'), getElem!_pos _ _ (by simpa using hj')]
    · simp [World.frozen?, h]
  exact OwnLits.lits (B := 0) (.inr ⟨b, xs.length, rfl, Nat.le_refl _, hm, Nat.zero_le _, lt_of_block h, hH⟩)

/-- Normal at the chapter's example. -/
theorem normal_awake (b : Nat) (w : World) (h : w.heap[b]? = some (.cells #[.bool false, .string ⟨#[113]⟩, .bool true, .string ⟨#[112]⟩, .bool false, .string ⟨#[113]⟩] 23 (0, 0))) :
    Calls Try.prog 29 #[.slice (some ⟨b, 0, none⟩) 3 3] w fun e w' => ∃ g cap : Nat, e = .returned (.slice (some ⟨g, 0, none⟩) 2 cap) ∧ w'.cell? ⟨g, 0, none⟩ = some (.bool true) ∧ w'.cell? ⟨g, 1, none⟩ = some (.string ⟨#[112]⟩) ∧ g < w'.heap.size ∧ Below w.heap.size w w' := by
  have hl : LitsAt w (.slice (some ⟨b, 0, none⟩) 3 3) [lq, lnp, lq] := lits_block [lq, lnp, lq] h (by kernel_rfl) rfl (by decide)
  refine (normal_any _ _ w hl (by decide)).mono ?_
  rintro e w' ⟨v', rfl, ho, hb⟩
  rw [awake_normal] at ho
  rcases ho with h0 | ⟨g, cap, rfl, h2, h3, h4, h5, h6⟩
  · exact absurd h0.2 (by simp)
  · have c := HoldsK.at0 h6 (show 0 < [lnp, lq].toArray.size by decide)
    exact ⟨g, cap, rfl, c.1.1, c.2.1, h5, hb⟩

theorem cons_awake (b : Nat) (w : World) (h : w.heap[b]? = some (.cells #[.bool false, .string ⟨#[112]⟩, .bool false, .string ⟨#[113]⟩, .bool true, .string ⟨#[112]⟩] 23 (0, 0))) :
    Calls Try.prog 31 #[.slice (some ⟨b, 0, none⟩) 3 3] w fun e w' => e = .returned (.bool false) ∧ Below w.heap.size w w' := by
  have hl : LitsAt w (.slice (some ⟨b, 0, none⟩) 3 3) [lp, lq, lnp] := lits_block [lp, lq, lnp] h (by kernel_rfl) rfl (by decide)
  have := consistent_any _ _ w hl (by decide) (fun x hx => by
    simp only [List.mem_cons, List.not_mem_nil, or_false] at hx
    rcases hx with rfl | rfl | rfl <;> decide)
  rw [awake_cons] at this
  exact this

theorem fmt_awake (w : World) : Calls Try.prog 16 #[.agg #[.bool true, .string ⟨#[112]⟩]] w fun e w' => e = .returned (.string ⟨#[126, 112]⟩) ∧ Below w.heap.size w w' := by
  have := format_any true ⟨#[112]⟩ w (by decide)
  rw [awake_fmt] at this
  exact this
theorem parse_awake (w : World) : Calls Try.prog 18 #[.string ⟨#[126, 126, 112]⟩] w fun e w' => e = .returned (.tuple #[.agg #[.bool false, .string ⟨#[]⟩], .int .i64 3]) ∧ Below w.heap.size w w' :=
  parse_bad ⟨#[126, 126, 112]⟩ w (by decide) (by decide +kernel)

theorem three_laid {w w1 : World} {a b c : Obj} (hb : Below (((w.alloc a).alloc b).alloc c).heap.size (((w.alloc a).alloc b).alloc c) w1) :
    w1.heap[w.heap.size]? = some a ∧ w1.heap[w.heap.size + 1]? = some b ∧ w1.heap[w.heap.size + 1 + 1]? = some c ∧ w.heap.size + 1 + 1 < w1.heap.size ∧ Below w.heap.size w w1 := by
  have hs : (((w.alloc a).alloc b).alloc c).heap.size = w.heap.size + 3 := by simp
  have h0 : (((w.alloc a).alloc b).alloc c).heap = ((w.heap.push a).push b).push c := rfl
  have hz := hb.size
  rw [hs] at hz
  refine ⟨?_, ?_, ?_, by omega, ?_⟩
  · rw [hb.block _ (by omega), h0]; simp only [Array.getElem?_push, Array.size_push]; rw [if_neg (by omega), if_neg (by omega), if_pos trivial]
  · rw [hb.block _ (by omega), h0]; simp only [Array.getElem?_push, Array.size_push]; rw [if_neg (by omega), if_pos trivial]
  · rw [hb.block _ (by omega), h0]; simp only [Array.getElem?_push, Array.size_push]; rw [if_pos trivial]
  · exact ((((Below.refl _ _).alloc (Nat.le_refl _) _).alloc (by simp) _).alloc (by simp; omega) _).trans (hb.mono (by omega))

theorem two_new (w : World) (a b : Obj) : ((w.alloc a).alloc b).heap[w.heap.size + 1]? = some b := by
  have h := heap_alloc_new (w.alloc a) b
  have e : (w.alloc a).heap.size = w.heap.size + 1 := by simp
  rw [e] at h
  exact h
theorem below_of_two {w w1 : World} {a b : Obj} (hb : Below ((w.alloc a).alloc b).heap.size ((w.alloc a).alloc b) w1) : Below w.heap.size w w1 := below_of_alloc (below_of_alloc hb |>.mono (Nat.le_refl _))
theorem block_kept {w w1 : World} {b : Nat} {o : Obj} (h : w.heap[b]? = some o) (hb : Below w.heap.size w w1) : w1.heap[b]? = some o := by
  rw [hb.block b (lt_of_block h)]
  exact h

/-- What the last statement of awake reads. -/
structure AwS (w0 : World) (g : Nat) (w : World) : Prop where
  k1 : w.heap[w0.heap.size]? = some (.cells #[.bool false, .string ⟨#[112]⟩] 23 (0, 0))
  k2 : w.heap[w0.heap.size + 1]? = some (.cells #[.bool true, .string ⟨#[112]⟩] 23 (0, 0))
  k3 : w.heap[w0.heap.size + 1 + 1]? = some (.cells #[.bool false, .string ⟨#[113]⟩] 23 (0, 0))
  n0 : w.cell? ⟨g, 0, none⟩ = some (.bool true)
  n1 : w.cell? ⟨g, 1, none⟩ = some (.string ⟨#[112]⟩)
  hg : g < w.heap.size
  bel : Below w0.heap.size w0 w

theorem AwS.go {w0 w w' : World} {g : Nat} (h : AwS w0 g w) (hb : Below w.heap.size w w') : AwS w0 g w' :=
  ⟨block_kept h.k1 hb, block_kept h.k2 hb, block_kept h.k3 hb, by rw [hb.cell (p := ⟨g, 0, none⟩) h.hg]; exact h.n0, by rw [hb.cell (p := ⟨g, 1, none⟩) h.hg]; exact h.n1, Nat.lt_of_lt_of_le h.hg hb.size, h.bel.trans (hb.mono h.bel.size)⟩
theorem AwS.alloc {w0 w : World} {g : Nat} (h : AwS w0 g w) (o : Obj) : AwS w0 g (w.alloc o) := h.go ((Below.refl _ _).alloc (Nat.le_refl _) o)
theorem AwS.drew {w0 w : World} {g : Nat} (h : AwS w0 g w) : AwS w0 g w.drew := ⟨h.k1, h.k2, h.k3, h.n0, h.n1, h.hg, h.bel.drew⟩
theorem AwS.all {w0 w' : World} {g : Nat} (h : AwS w0 g w') : w'.cell? ⟨w0.heap.size, 0, none⟩ = some (.bool false) ∧ w'.cell? ⟨w0.heap.size, 1, none⟩ = some (.string ⟨#[112]⟩) ∧ w'.cell? ⟨w0.heap.size + 1, 0, none⟩ = some (.bool true) ∧ w'.cell? ⟨w0.heap.size + 1, 1, none⟩ = some (.string ⟨#[112]⟩) ∧ w'.cell? ⟨w0.heap.size + 1 + 1, 0, none⟩ = some (.bool false) ∧ w'.cell? ⟨w0.heap.size + 1 + 1, 1, none⟩ = some (.string ⟨#[113]⟩) ∧ w'.cell? ⟨g, 0, none⟩ = some (.bool true) ∧ w'.cell? ⟨g, 1, none⟩ = some (.string ⟨#[112]⟩) ∧ Hid (AwS w0 g w') :=
  ⟨cell_two0 h.k1, cell_two1 h.k1, cell_two0 h.k2, cell_two1 h.k2, cell_two0 h.k3, cell_two1 h.k3, h.n0, h.n1, h⟩

theorem fmt_aw (w0 w : World) (g : Nat) (h : AwS w0 g w) : Calls Try.prog 16 #[.agg #[.bool true, .string ⟨#[112]⟩]] w fun e w' => e = .returned (.string ⟨#[126, 112]⟩) ∧ AwS w0 g w' :=
  (fmt_awake w).mono fun _ _ ⟨he, hb⟩ => ⟨he, h.go hb⟩
theorem cmp_aw (w0 w : World) (g : Nat) (a b : Bool) (s t : ByteArray) (h : AwS w0 g w) : Calls Try.prog 23 #[.agg #[.bool a, .string s], .agg #[.bool b, .string t]] w fun e w' => e = .returned (.int .i64 (cmpI ⟨a, s⟩ ⟨b, t⟩)) ∧ AwS w0 g w' :=
  (compare_any ⟨a, s⟩ ⟨b, t⟩ w).mono fun _ _ ⟨he, os, hw⟩ => ⟨he, h.go (by rw [hw]; exact below_grow w os)⟩
theorem cons_aw (w0 w : World) (g : Nat) (h : AwS w0 g w) : Calls Try.prog 31 #[.slice (some ⟨w.heap.size, 0, none⟩) 3 3] (w.alloc (.cells #[.bool false, .string ⟨#[112]⟩, .bool false, .string ⟨#[113]⟩, .bool true, .string ⟨#[112]⟩] 23)) fun e w' => e = .returned (.bool false) ∧ AwS w0 g w' :=
  (cons_awake w.heap.size _ (heap_alloc_new w _)).mono fun _ _ ⟨he, hb⟩ => ⟨he, h.go (below_of_alloc hb)⟩
end Go.Proofs.Ytbldlngblmegfaa
