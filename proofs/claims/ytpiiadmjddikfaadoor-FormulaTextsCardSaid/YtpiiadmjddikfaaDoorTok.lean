/- Tokens: inWord and firstToken. -/
import Derived.Test.YtpiiadmjddikfaaDoorKinds
import Derived.Test.YtpiiadmjddikfaaDoorStrRow
import Derived.Test.YtpiiadmjddikfaaDoorShelf
import Derived.Laws.Rows
namespace Go.Proofs.YtpiiadmjddikfaaDoor
set_option linter.unusedVariables false
set_option linter.unusedSimpArgs false
open Go.RowKit

/-- Does a byte belong to a word? -/
def inWI (c : Int) : Bool := decide (97 ≤ c ∧ c ≤ 122) || (decide (65 ≤ c ∧ c ≤ 90) || (decide (48 ≤ c ∧ c ≤ 57) || decide (c = 95)))
def inW (c : UInt8) : Bool := inWI (c.toNat : Int)

def sgn : List (List UInt8) := [[60, 45, 62], [45, 62], [126], [38], [124], [40], [41]]

/-- The word with which a text begins, or nothing if it is none. -/
def wordTok (l : List UInt8) : List UInt8 :=
  let u := l.takeWhile inW
  if u = [48] ∨ u = [49] ∨ vn ⟨u.toArray⟩ = true then u else []

/-- The token with which a text begins. -/
def tok (l : List UInt8) : List UInt8 := ((sgn.find? fun p => p.isPrefixOf l).getD (wordTok l))

/-- The package's table of signs lies as it was laid. -/
structure SignsAt (w : World) : Prop where
  lt : 0 < w.heap.size
  c0 : w.cell? ⟨0, 0, none⟩ = some (.string ⟨#[60, 45, 62]⟩)
  c1 : w.cell? ⟨0, 1, none⟩ = some (.string ⟨#[45, 62]⟩)
  c2 : w.cell? ⟨0, 2, none⟩ = some (.string ⟨#[126]⟩)
  c3 : w.cell? ⟨0, 3, none⟩ = some (.string ⟨#[38]⟩)
  c4 : w.cell? ⟨0, 4, none⟩ = some (.string ⟨#[124]⟩)
  c5 : w.cell? ⟨0, 5, none⟩ = some (.string ⟨#[40]⟩)
  c6 : w.cell? ⟨0, 6, none⟩ = some (.string ⟨#[41]⟩)

theorem SignsAt.kept {w w' : World} {row : Option Nat} (h : SignsAt w) (hg : w.grownBy w' row) (hr : row ≠ some 0) : SignsAt w' :=
  ⟨Nat.lt_of_lt_of_le h.lt hg.size, hg.cell h.c0 (fun e => hr e.symm), hg.cell h.c1 (fun e => hr e.symm), hg.cell h.c2 (fun e => hr e.symm), hg.cell h.c3 (fun e => hr e.symm), hg.cell h.c4 (fun e => hr e.symm), hg.cell h.c5 (fun e => hr e.symm), hg.cell h.c6 (fun e => hr e.symm)⟩
theorem SignsAt.go {w w' : World} (h : SignsAt w) (hb : Below w.heap.size w w') : SignsAt w' := h.kept (only_of_below hb none) (by simp)

set_option maxHeartbeats 400000 in
theorem inWord_any (c : Int) (hc : 0 ≤ c) (hc' : c ≤ 255) (w : World) :
    Calls Tryd.prog 76 #[.int .u8 c] w fun e w' => e = .returned (.bool (inWI c)) ∧ w = w' := by
  go_enter Tryd.func76, Tryd.ntmps76
  go_wp2
  all_goals (go_ret; refine ⟨ret_bool ?_, rfl⟩; grind [inWI])

theorem tok_sign {l : List UInt8} {k : Nat} (hk : k < sgn.length) (h : ∀ j, j < k → (sgn.getD j []).isPrefixOf l = false) (hp : (sgn.getD k []).isPrefixOf l = true) : tok l = sgn.getD k [] := by
  have hf : sgn.find? (fun p => p.isPrefixOf l) = some (sgn.getD k []) := by
    rw [List.find?_eq_some_iff_getElem]
    refine ⟨hp, k, hk, by rw [List.getD_eq_getElem?_getD, List.getElem?_eq_getElem hk]; rfl, fun j hj => ?_⟩
    have := h j hj
    rw [List.getD_eq_getElem?_getD, List.getElem?_eq_getElem (by omega)] at this
    simpa using this
  rw [tok, hf]
  rfl
theorem tok_word {l : List UInt8} (h : ∀ j, j < 7 → (sgn.getD j []).isPrefixOf l = false) : tok l = wordTok l := by
  have hf : sgn.find? (fun p => p.isPrefixOf l) = none := by
    rw [List.find?_eq_none]
    intro p hp
    obtain ⟨j, hj, rfl⟩ := List.mem_iff_getElem.1 hp
    have := h j hj
    rw [List.getD_eq_getElem?_getD, List.getElem?_eq_getElem hj] at this
    rw [show (some sgn[j]).getD [] = sgn[j] from rfl] at this
    rw [this]
    exact Bool.false_ne_true
  rw [tok, hf]
  rfl

theorem idx_signs (k : Nat) (hk : k < 7) (w : World) : (Instr.index 88 (.agg #[.string ⟨#[60, 45, 62]⟩, .string ⟨#[45, 62]⟩, .string ⟨#[126]⟩, .string ⟨#[38]⟩, .string ⟨#[124]⟩, .string ⟨#[40]⟩, .string ⟨#[41]⟩]) (.int .i64 (k : Int))).run Tryd.prog w = .ok (.string ⟨(sgn.getD k []).toArray⟩) w := by
  have h7 : k = 0 ∨ k = 1 ∨ k = 2 ∨ k = 3 ∨ k = 4 ∨ k = 5 ∨ k = 6 := by omega
  rcases h7 with rfl | rfl | rfl | rfl | rfl | rfl | rfl <;> (refine Eq.trans ?_ rfl; kernel_rfl)

theorem extract_take (s : ByteArray) (k : Nat) : s.extract 0 k = ⟨(s.data.toList.take k).toArray⟩ := by
  obtain ⟨⟨l⟩⟩ := s
  apply ByteArray.ext
  simp [ByteArray.data_extract]

theorem mk_size (l : List UInt8) : (⟨l.toArray⟩ : ByteArray).size = l.length := by simp only [ByteArray.size, List.size_toArray]
theorem take_size (s : ByteArray) (k : Nat) (hk : k ≤ s.size) (hs : s.size ≤ 1000000) : (⟨(s.data.toList.take k).toArray⟩ : ByteArray).size ≤ maxLen := by
  rw [mk_size, List.length_take]
  unfold maxLen
  omega

theorem takeWhile_take {l : List UInt8} {p : UInt8 → Bool} {k : Nat} (h1 : ∀ c ∈ l.take k, p c = true) (h2 : ∀ c, l[k]? = some c → p c = false) : l.takeWhile p = l.take k := by
  induction l generalizing k with
  | nil => simp
  | cons a l ih =>
    cases k with
    | zero =>
      have := h2 a rfl
      simp [List.takeWhile_cons, this]
    | succ k =>
      have ha := h1 a (by simp)
      rw [List.takeWhile_cons, if_pos ha, List.take_succ_cons, ih (fun c hc => h1 c (by rw [List.take_succ_cons]; exact List.mem_cons_of_mem _ hc)) (fun c hc => h2 c (by simpa using hc))]

set_option maxRecDepth 100000 in
set_option maxHeartbeats 1000000 in
theorem firstToken_any (s : ByteArray) (hs : s.size ≤ 1000000) (w : World) (h : SignsAt w) :
    Calls Tryd.prog 58 #[.string s] w fun e w' => e = .returned (.string ⟨(tok s.data.toList).toArray⟩) ∧ w' = w := by
  obtain ⟨hlt, c0, c1, c2, c3, c4, c5, c6⟩ := h
  go_enter Tryd.func58, Tryd.ntmps58
  go_wp2_with fail
  clear c0 c1 c2 c3 c4 c5 c6
  go_loop [8] (fun i => ∃ k : Nat, k ≤ 7 ∧ i = .int .i64 k ∧ Hid (∀ j, j < k → (sgn.getD j []).isPrefixOf s.data.toList = false)) (fun i => 7 - (intOf i).toNat)
  case atStart => exact ⟨0, by omega, rfl, fun j hj => by omega⟩
  case round =>
    obtain ⟨k, hk, rfl, hno⟩ := hrel
    by_cases hlt7 : k < 7
    · have hix := idx_signs k hlt7
      have hkl : k < sgn.length := hlt7
      cases hp : (sgn.getD k []).isPrefixOf s.data.toList
      · have HP := hidIt hp
        clear hp
        generalize hsg : sgn.getD k [] = g at *
        have HG := hidIt hsg
        clear hsg
        go_wp2_with fail
        refine (Tryd.strings_HasPrefix s ⟨g.toArray⟩ w).mono ?_
        rintro e w' ⟨rfl, rfl⟩
        have HQ : Hid (Lib.hasPrefix s.data.toList (⟨g.toArray⟩ : ByteArray).data.toList = false) := HP.out
        rw [HQ.out]
        go_wp2_with fail
        go_round
        case rel => exact ⟨k + 1, by omega, by go_num, fun j hj => by
          rcases Nat.lt_succ_iff_lt_or_eq.1 hj with h | h
          · exact hno.out j h
          · rw [h, HG.out]; exact HP.out⟩
        case measure => simp [intOf]; omega
      · have HT := hidIt (tok_sign hkl hno.out hp)
        have HP := hidIt hp
        clear hp
        generalize sgn.getD k [] = g at *
        go_wp2_with fail
        refine (Tryd.strings_HasPrefix s ⟨g.toArray⟩ w).mono ?_
        rintro e w' ⟨rfl, rfl⟩
        have HQ : Hid (Lib.hasPrefix s.data.toList (⟨g.toArray⟩ : ByteArray).data.toList = true) := HP.out
        rw [HQ.out]
        go_wp2_with fail
        go_ret
        exact ⟨congrArg (fun l : List UInt8 => Ending.returned (.string ⟨l.toArray⟩)) HT.out.symm, rfl⟩
    · obtain rfl : k = 7 := by omega
      have HT := hidIt (tok_word hno.out)
      clear hno
      go_wp2_with fail
      go_loop [5] (fun i => ∃ k : Nat, k ≤ s.size ∧ i = .int .i64 k ∧ Hid (∀ c ∈ s.data.toList.take k, inW c = true)) (fun i => s.size - (intOf i).toNat)
      case atStart => exact ⟨0, by omega, rfl, by intro c hc; simp at hc⟩
      case round =>
        obtain ⟨k, hk, rfl, hall⟩ := hrel
        by_cases hc : ∃ h : k < s.size, inW s[k] = true
        · obtain ⟨hlt, hin⟩ := hc
          have hb : 0 ≤ (s[k].toNat : Int) := by omega
          have hb' : (s[k].toNat : Int) ≤ 255 := by have := s[k].toNat_lt; omega
          have HI : Hid (inWI (s[k].toNat : Int) = true) := hin
          have HS : Hid (∀ c ∈ s.data.toList.take (k + 1), inW c = true) := by
            intro c hc
            rw [List.take_succ_eq_append_getElem (by simpa using hlt)] at hc
            rcases List.mem_append.1 hc with hc | hc
            · exact hall.out c hc
            · simp only [List.mem_singleton] at hc
              subst hc
              exact hin
          clear hin
          go_wp2_with fail
          refine (inWord_any _ hb hb' w).mono ?_
          rintro e w' ⟨rfl, rfl⟩
          rw [HI.out]
          go_wp2_with fail
          go_round
          case rel => exact ⟨k + 1, by omega, by go_num, HS⟩
          case measure => simp [intOf]; omega
        · have hTW : s.data.toList.takeWhile inW = s.data.toList.take k := takeWhile_take hall.out (fun c hc2 => by
            obtain ⟨h1, h2⟩ := List.getElem?_eq_some_iff.1 hc2
            cases hi : inW c
            · rfl
            · exact absurd ⟨(by simpa using h1), (by rw [← h2] at hi; exact hi)⟩ hc)
          obtain ⟨u, hu⟩ : ∃ u, u = s.data.toList.take k := ⟨_, rfl⟩
          rw [← hu] at hTW
          have HW : Hid (tok s.data.toList = if u = [48] ∨ u = [49] ∨ vn ⟨u.toArray⟩ = true then u else []) := by
            show _ = _
            rw [HT.out]
            simp only [wordTok, hTW]
          clear hTW
          have hX : Hid (s.extract 0 k = ⟨u.toArray⟩) := by
            show _ = _
            rw [hu]
            exact extract_take s k
          have hXL : Hid ((s.extract 0 k).toList = u) := by show _ = _; rw [hX.out, Lib.toList_data]
          have HW2 : Hid ((s.extract 0 k).toList = [48] ∨ (s.extract 0 k).toList = [49] ∨ vn (s.extract 0 k) = true → tok s.data.toList = u) := fun h => by
            rw [HW.out, if_pos (by rw [← hX.out]; rw [hXL.out] at h; exact h)]
          have HW3 : Hid (¬ (s.extract 0 k).toList = [48] → ¬ (s.extract 0 k).toList = [49] → vn (s.extract 0 k) = false → tok s.data.toList = []) := fun h1 h2 h3 => by
            rw [HW.out, if_neg (by rw [← hX.out]; rw [hXL.out] at h1 h2; exact fun h => h.elim h1 fun h => h.elim h2 fun h => by rw [h3] at h; cases h)]
          have hxs : (s.extract 0 k).size ≤ maxLen := by rw [hX.out, hu]; exact take_size s k hk hs
          have HF : Hid (tok s.data.toList = u → (s.extract 0 k) = ⟨(tok s.data.toList).toArray⟩) := fun h => by rw [h]; exact hX.out
          by_cases hlt : k < s.size
          · have hb : 0 ≤ (s[k].toNat : Int) := by omega
            have hb' : (s[k].toNat : Int) ≤ 255 := by have := s[k].toNat_lt; omega
            have HI : Hid (inWI (s[k].toNat : Int) = false) := by
              show _ = _
              cases hi : inWI (s[k].toNat : Int)
              · rfl
              · exact absurd ⟨hlt, hi⟩ hc
            clear hc hu
            by_cases h48 : (s.extract 0 k).toList = [48]
            · have HE := hidIt (HF.out (HW2.out (.inl h48)))
              go_wp2_with fail
              refine (inWord_any _ hb hb' w).mono ?_
              rintro e w' ⟨rfl, rfl⟩
              rw [HI.out]
              go_wp2_with fail
              go_ret
              exact ⟨ret_str' HE.out, rfl⟩
            by_cases h49 : (s.extract 0 k).toList = [49]
            · have HE := hidIt (HF.out (HW2.out (.inr (.inl h49))))
              go_wp2_with fail
              refine (inWord_any _ hb hb' w).mono ?_
              rintro e w' ⟨rfl, rfl⟩
              rw [HI.out]
              go_wp2_with fail
              go_ret
              exact ⟨ret_str' HE.out, rfl⟩
            have b48 : ((s.extract 0 k).toList == [48]) = false := beq_eq_false_iff_ne.2 h48
            have b49 : ((s.extract 0 k).toList == [49]) = false := beq_eq_false_iff_ne.2 h49
            cases hvn : vn (s.extract 0 k)
            · have HE := hidIt (HW3.out h48 h49 hvn)
              have HV := hidIt hvn
              clear hvn
              go_wp2_with fail
              refine (inWord_any _ hb hb' w).mono ?_
              rintro e w' ⟨rfl, rfl⟩
              rw [HI.out]
              go_wp2_with fail
              refine (validName_any _ w hxs).mono ?_
              rintro e w' ⟨rfl, rfl⟩
              rw [HV.out]
              go_wp2_with fail
              go_ret
              exact ⟨congrArg (fun l : List UInt8 => Ending.returned (.string ⟨l.toArray⟩)) HE.out.symm, rfl⟩
            · have HE := hidIt (HF.out (HW2.out (.inr (.inr hvn))))
              have HV := hidIt hvn
              clear hvn
              go_wp2_with fail
              refine (inWord_any _ hb hb' w).mono ?_
              rintro e w' ⟨rfl, rfl⟩
              rw [HI.out]
              go_wp2_with fail
              refine (validName_any _ w hxs).mono ?_
              rintro e w' ⟨rfl, rfl⟩
              rw [HV.out]
              go_wp2_with fail
              go_ret
              exact ⟨ret_str' HE.out, rfl⟩
          · clear hc hu
            by_cases h48 : (s.extract 0 k).toList = [48]
            · have HE := hidIt (HF.out (HW2.out (.inl h48)))
              go_wp2_with fail
              go_ret
              exact ⟨ret_str' HE.out, rfl⟩
            by_cases h49 : (s.extract 0 k).toList = [49]
            · have HE := hidIt (HF.out (HW2.out (.inr (.inl h49))))
              go_wp2_with fail
              go_ret
              exact ⟨ret_str' HE.out, rfl⟩
            have b48 : ((s.extract 0 k).toList == [48]) = false := beq_eq_false_iff_ne.2 h48
            have b49 : ((s.extract 0 k).toList == [49]) = false := beq_eq_false_iff_ne.2 h49
            cases hvn : vn (s.extract 0 k)
            · have HE := hidIt (HW3.out h48 h49 hvn)
              have HV := hidIt hvn
              clear hvn
              go_wp2_with fail
              refine (validName_any _ w hxs).mono ?_
              rintro e w' ⟨rfl, rfl⟩
              rw [HV.out]
              go_wp2_with fail
              go_ret
              exact ⟨congrArg (fun l : List UInt8 => Ending.returned (.string ⟨l.toArray⟩)) HE.out.symm, rfl⟩
            · have HE := hidIt (HF.out (HW2.out (.inr (.inr hvn))))
              have HV := hidIt hvn
              clear hvn
              go_wp2_with fail
              refine (validName_any _ w hxs).mono ?_
              rintro e w' ⟨rfl, rfl⟩
              rw [HV.out]
              go_wp2_with fail
              go_ret
              exact ⟨ret_str' HE.out, rfl⟩
end Go.Proofs.YtpiiadmjddikfaaDoor
