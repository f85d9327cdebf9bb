/- What Format writes, the parser reads back. -/
import Derived.Test.YtmkcohcpdfabbaaDoorFParse
import Derived.Test.YtmkcohcpdfabbaaDoorFFormat
namespace Go.Proofs.YtmkcohcpdfabbaaDoor
set_option linter.unusedVariables false
set_option linter.unusedSimpArgs false
open Go.RowKit

/-- A rest that no word goes on into. -/
def Bnd (r : Rest) : Prop := ∀ c, r.head? = some c → inW c = false
/-- The signs by rank. -/
def sg : Nat → Rest
  | 0 => [60, 45, 62]
  | 1 => [45, 62]
  | 2 => [124]
  | _ => [38]
/-- No sign of this rank, or of a higher one, goes on. -/
def Ends (k : Nat) (r : Rest) : Prop := ∀ j, k ≤ j → j ≤ 3 → tok (skipS r) ≠ sg j
/-- The text is read, at a rank, as the formula. -/
def Reads (k : Nat) (x : Rest) (t : Tree) : Prop := ∀ n r, 8 * x.length + 7 - k ≤ n → Bnd r → Ends k r → pF n k (x ++ r) = (some t, skipS r)
/-- It does not begin with a space, and is not empty. -/
def NoSp (x : Rest) : Prop := ∃ c y, x = c :: y ∧ (c == 32) = false

theorem skip_nosp {x : Rest} (h : NoSp x) (r : Rest) : skipS (x ++ r) = x ++ r := by
  obtain ⟨c, y, rfl, hc⟩ := h
  simp [skipS, List.dropWhile_cons, hc]
theorem skip_sp (r : Rest) : skipS (32 :: r) = skipS r := by simp [skipS, List.dropWhile_cons]
theorem NoSp.len {x : Rest} (h : NoSp x) : 1 ≤ x.length := by obtain ⟨c, y, rfl, -⟩ := h; simp

theorem tok_par (y : Rest) : tok (40 :: y) = [40] := by simp [tok, sgn, List.find?_cons, List.isPrefixOf]
theorem tok_end (y : Rest) : tok (41 :: y) = [41] := by simp [tok, sgn, List.find?_cons, List.isPrefixOf]
theorem tok_not (y : Rest) : tok (126 :: y) = [126] := by simp [tok, sgn, List.find?_cons, List.isPrefixOf]
theorem tok_and (y : Rest) : tok (38 :: y) = [38] := by simp [tok, sgn, List.find?_cons, List.isPrefixOf]
theorem tok_or (y : Rest) : tok (124 :: y) = [124] := by simp [tok, sgn, List.find?_cons, List.isPrefixOf]
theorem tok_imp (y : Rest) : tok (45 :: 62 :: y) = [45, 62] := by simp [tok, sgn, List.find?_cons, List.isPrefixOf]
theorem tok_iff (y : Rest) : tok (60 :: 45 :: 62 :: y) = [60, 45, 62] := by simp [tok, sgn, List.find?_cons, List.isPrefixOf]
theorem tok_nil : tok [] = [] := by decide +kernel

theorem bnd_sp (r : Rest) : Bnd (32 :: r) := fun c h => by
  rw [List.head?_cons] at h
  injection h with h
  subst h
  decide
theorem bnd_end (r : Rest) : Bnd (41 :: r) := fun c h => by
  rw [List.head?_cons] at h
  injection h with h
  subst h
  decide
theorem bnd_nil : Bnd [] := fun c h => by cases h
theorem ends_nil (k : Nat) : Ends k [] := fun j _ _ => by
  show tok [] ≠ sg j
  rw [tok_nil]
  match j with
  | 0 => simp [sg]
  | 1 => simp [sg]
  | 2 => simp [sg]
  | j + 3 => simp [sg]
theorem ends_par (k : Nat) (r : Rest) : Ends k (41 :: r) := fun j _ _ => by
  have e : skipS (41 :: r) = 41 :: r := by simp [skipS, List.dropWhile_cons]
  rw [e, tok_end]
  match j with
  | 0 => simp [sg]
  | 1 => simp [sg]
  | 2 => simp [sg]
  | j + 3 => simp [sg]
theorem Ends.sp {k : Nat} {r : Rest} (h : Ends k r) : Ends k (32 :: r) := fun j h1 h2 => by rw [skip_sp]; exact h j h1 h2
theorem Ends.up {k l : Nat} {r : Rest} (h : Ends k r) (hl : k ≤ l) : Ends l r := fun j h1 h2 => h j (by omega) h2

/-- What a rank reads, the rank before reads. -/
theorem Reads.down {k : Nat} {x : Rest} {t : Tree} (hk : k < 4) (h : Reads (k + 1) x t) (hx : NoSp x) : Reads k x t := fun n r hn hb he => by
  have hl := hx.len
  obtain ⟨m, rfl⟩ : ∃ m, n = m + 1 := ⟨n - 1, by omega⟩
  have h1 := h m r (by omega) hb (he.up (by omega))
  have h2 := he k (Nat.le_refl _) (by omega)
  match k, hk with
  | 0, _ => show pairP _ _ _ _ _ = _; unfold pairP; rw [h1]; exact if_neg h2
  | 1, _ => show pairP _ _ _ _ _ = _; unfold pairP; rw [h1]; exact if_neg h2
  | 2, _ => show rowP _ _ _ _ = _; unfold rowP; rw [h1]; exact if_neg h2
  | 3, _ => show rowP _ _ _ _ = _; unfold rowP; rw [h1]; exact if_neg h2
theorem Reads.prim {x : Rest} {t : Tree} (h : Reads 5 x t) (hx : NoSp x) (ht : ∀ r, Bnd r → tok (x ++ r) ≠ [126]) : Reads 4 x t := fun n r hn hb he => by
  have hl := hx.len
  obtain ⟨m, rfl⟩ : ∃ m, n = m + 1 := ⟨n - 1, by omega⟩
  rw [pF4, if_neg (ht r hb)]
  exact h m r (by omega) hb (he.up (by omega))
theorem Reads.to {k l : Nat} {x : Rest} {t : Tree} (h : Reads l x t) (hx : NoSp x) (hkl : k ≤ l) (hl : l ≤ 4) : Reads k x t := by
  obtain ⟨d, rfl⟩ : ∃ d, l = k + d := ⟨l - k, by omega⟩
  induction d generalizing k with
  | zero => exact h
  | succ d ih =>
    refine Reads.down (by omega) (ih (k := k + 1) (by rw [show k + 1 + d = k + (d + 1) by omega]; exact h) (by omega) (by omega)) hx

/-- In parentheses, with or without a space ahead of the closing one. -/
theorem reads_par {x : Rest} {t : Tree} (h : Reads 0 x t) (hx : NoSp x) (y : Rest) (hy : y = [41] ∨ y = [32, 41]) : Reads 5 (40 :: (x ++ y)) t := fun n r hn hb he => by
  have hl := hx.len
  have hyl : 1 ≤ y.length := by rcases hy with rfl | rfl <;> simp
  simp only [List.length_cons, List.length_append] at hn
  obtain ⟨m, rfl⟩ : ∃ m, n = m + 1 + 1 := ⟨n - 2, by omega⟩
  have e1 : 40 :: (x ++ y) ++ r = 40 :: (x ++ (y ++ r)) := by simp
  have e2 : nxt (40 :: (x ++ (y ++ r))) = x ++ (y ++ r) := by
    unfold nxt
    rw [tok_par]
    show skipS (x ++ (y ++ r)) = _
    exact skip_nosp hx _
  have e3 : skipS (y ++ r) = 41 :: r := by
    rcases hy with rfl | rfl
    · simp [skipS, List.dropWhile_cons]
    · simp [skipS, List.dropWhile_cons]
  have hb' : Bnd (y ++ r) := by
    rcases hy with rfl | rfl
    · exact bnd_end r
    · exact bnd_sp _
  have he' : Ends 0 (y ++ r) := by
    rcases hy with rfl | rfl
    · exact ends_par 0 r
    · exact (ends_par 0 r).sp
  rw [e1, pF5, tok_par, if_pos rfl, pF6 m 0, e2, h m (y ++ r) (by omega) hb' he', e3]
  simp only [closeP]
  rw [tok_end, if_pos rfl]
  unfold nxt
  rw [tok_end]
  rfl
theorem nosp_par (x : Rest) : NoSp (40 :: x) := ⟨40, x, rfl, by decide⟩
theorem reads_par4 {x : Rest} {t : Tree} (h : Reads 0 x t) (hx : NoSp x) (y : Rest) (hy : y = [41] ∨ y = [32, 41]) : Reads 4 (40 :: (x ++ y)) t :=
  (reads_par h hx y hy).prim (nosp_par _) fun r _ => by rw [List.cons_append, tok_par]; decide

/-- Words. -/
theorem tok_word' {x r : Rest} (h1 : ∀ c ∈ x, inW c = true) (hx : x ≠ []) (hb : Bnd r) (hv : x = [48] ∨ x = [49] ∨ vn ⟨x.toArray⟩ = true) : tok (x ++ r) = x := by
  have htw : (x ++ r).takeWhile inW = x := by
    have := takeWhile_take (l := x ++ r) (p := inW) (k := x.length) (by rw [List.take_left]; exact h1) (fun c hc => by
      rw [List.getElem?_append_right (Nat.le_refl _), Nat.sub_self, ← List.head?_eq_getElem?] at hc
      exact hb c hc)
    rw [this, List.take_left]
  have hno : ∀ j, j < 7 → (sgn.getD j []).isPrefixOf (x ++ r) = false := fun j hj => by
    obtain ⟨c, y, rfl⟩ : ∃ c y, x = c :: y := by
      cases x with
      | nil => exact absurd rfl hx
      | cons c y => exact ⟨c, y, rfl⟩
    have hc := h1 c (by simp)
    have key : ∀ d : UInt8, inW d = false → (d == c) = false := fun d hd => by
      rw [beq_eq_false_iff_ne]
      intro e
      subst e
      rw [hd] at hc
      cases hc
    match j, hj with
    | 0, _ => simp [sgn, List.isPrefixOf, key 60 (by decide)]
    | 1, _ => simp [sgn, List.isPrefixOf, key 45 (by decide)]
    | 2, _ => simp [sgn, List.isPrefixOf, key 126 (by decide)]
    | 3, _ => simp [sgn, List.isPrefixOf, key 38 (by decide)]
    | 4, _ => simp [sgn, List.isPrefixOf, key 124 (by decide)]
    | 5, _ => simp [sgn, List.isPrefixOf, key 40 (by decide)]
    | 6, _ => simp [sgn, List.isPrefixOf, key 41 (by decide)]
  rw [tok_word hno]
  unfold wordTok
  simp only
  rw [htw, if_pos hv]
theorem nxt_word {x r : Rest} (h : tok (x ++ r) = x) : nxt (x ++ r) = skipS r := by
  unfold nxt
  rw [h, List.drop_left]

/-- The further parts of a row. -/
def J (s : Rest) : List Rest → Rest
  | [] => []
  | x :: l => 32 :: (s ++ 32 :: (x ++ J s l))
theorem J_mem (s : Rest) : ∀ (l : List Rest) (x : Rest), x ∈ l → x.length + 2 ≤ (J s l).length
  | [], x, h => by cases h
  | y :: l, x, h => by
    simp only [J, List.length_cons, List.length_append]
    rcases List.mem_cons.1 h with rfl | h
    · omega
    · have := J_mem s l x h
      omega
theorem J_len (s : Rest) : ∀ (l : List Rest), 2 * l.length ≤ (J s l).length
  | [] => Nat.le_refl _
  | y :: l => by
    have := J_len s l
    simp only [J, List.length_cons, List.length_append]
    omega
theorem join_fold (sep : ByteArray) (s : Rest) (hsep : sep.data.toList = 32 :: (s ++ [32])) : ∀ (bs : List ByteArray) (a : ByteArray), (bs.foldl (fun a b => a ++ sep ++ b) a).data.toList = a.data.toList ++ J s (bs.map fun b => b.data.toList)
  | [], a => by simp [J]
  | b :: bs, a => by
    rw [List.foldl_cons, join_fold sep s hsep bs]
    simp [J, hsep]

section
variable {s : Rest} {k n : Nat} {r : Rest}
theorem J_bnd (hb : Bnd r) : ∀ l : List Rest, Bnd (J s l ++ r)
  | [] => hb
  | _ :: _ => bnd_sp _
theorem J_ends (hek : Ends k r) (hej : ∀ y, Ends k (32 :: (s ++ y))) : ∀ l : List Rest, Ends k (J s l ++ r)
  | [] => hek
  | x :: l => by
    have e : J s (x :: l) ++ r = 32 :: (s ++ (32 :: (x ++ J s l) ++ r)) := by simp [J]
    rw [e]
    exact hej _
theorem row_loop (hs : NoSp s) (htk : ∀ y, tok (s ++ y) = s) (hb : Bnd r) (hend : tok (skipS r) ≠ s) (hek : Ends k r) (hej : ∀ y, Ends k (32 :: (s ++ y))) :
    ∀ (l : List (Rest × Tree)), (∀ p ∈ l, Reads k p.1 p.2 ∧ NoSp p.1 ∧ 8 * p.1.length + 7 - k ≤ n) → ∀ N acc, l.length < N → rowLoop s (pF n k) N acc (skipS (J s (l.map Prod.fst) ++ r)) = (some (acc ++ l.map Prod.snd), skipS r)
  | [], _, N, acc, hN => by
    obtain ⟨N, rfl⟩ : ∃ m, N = m + 1 := ⟨N - 1, by omega⟩
    unfold rowLoop
    simp [J, hend]
  | (x, t) :: l, h, N, acc, hN => by
    obtain ⟨N, rfl⟩ : ∃ m, N = m + 1 := ⟨N - 1, by omega⟩
    obtain ⟨h1, h2, h3⟩ := h (x, t) (by simp)
    have ih := row_loop hs htk hb hend hek hej l (fun p hp => h p (by simp [hp])) N (acc ++ [t]) (by simpa using hN)
    have e : skipS (J s (((x, t) :: l).map Prod.fst) ++ r) = s ++ (32 :: (x ++ (J s (l.map Prod.fst) ++ r))) := by
      have : J s (((x, t) :: l).map Prod.fst) ++ r = 32 :: (s ++ (32 :: (x ++ (J s (l.map Prod.fst) ++ r)))) := by simp [J]
      rw [this, skip_sp, skip_nosp hs]
    have e2 : nxt (s ++ (32 :: (x ++ (J s (l.map Prod.fst) ++ r)))) = x ++ (J s (l.map Prod.fst) ++ r) := by
      unfold nxt
      rw [htk, List.drop_left, skip_sp, skip_nosp h2]
    have e3 := h1 n (J s (l.map Prod.fst) ++ r) h3 (J_bnd hb _) (J_ends hek hej _)
    rw [e]
    unfold rowLoop
    rw [if_pos (htk _), e2, e3]
    simp only
    rw [ih]
    simp
theorem row_read (op : Int) (hs : NoSp s) (htk : ∀ y, tok (s ++ y) = s) (hb : Bnd r) (hend : tok (skipS r) ≠ s) (hek : Ends k r) (hej : ∀ y, Ends k (32 :: (s ++ y)))
    (x : Rest) (t : Tree) (hx : Reads k x t) (hxn : 8 * x.length + 7 - k ≤ n) (l : List (Rest × Tree)) (hl : l ≠ []) (h : ∀ p ∈ l, Reads k p.1 p.2 ∧ NoSp p.1 ∧ 8 * p.1.length + 7 - k ≤ n) :
    rowP op s (pF n k) (x ++ (J s (l.map Prod.fst) ++ r)) = (some (.node op ⟨#[]⟩ (t :: l.map Prod.snd)), skipS r) := by
  have e3 := hx n (J s (l.map Prod.fst) ++ r) hxn (J_bnd hb _) (J_ends hek hej _)
  have ht : tok (skipS (J s (l.map Prod.fst) ++ r)) = s ∧ l.length < (skipS (J s (l.map Prod.fst) ++ r)).length + 1 := by
    obtain ⟨⟨y, u⟩, l', rfl⟩ : ∃ p l', l = p :: l' := by
      cases l with
      | nil => exact absurd rfl hl
      | cons p l' => exact ⟨p, l', rfl⟩
    have : J s (((y, u) :: l').map Prod.fst) ++ r = 32 :: (s ++ (32 :: (y ++ (J s (l'.map Prod.fst) ++ r)))) := by simp [J]
    rw [this, skip_sp, skip_nosp hs]
    refine ⟨htk _, ?_⟩
    have h1 := J_len s (l'.map Prod.fst)
    have h2 := hs.len
    simp only [List.length_cons, List.length_append, List.length_map] at h1 ⊢
    omega
  unfold rowP
  rw [e3]
  simp only
  rw [if_pos ht.1, row_loop hs htk hb hend hek hej l h _ [t] ht.2]
  simp
end

/-- The rank that reads a formula without parentheses. -/
def lev (t : Tree) : Nat := if t.op = 8 then 0 else if t.op = 7 then 1 else if t.op = 6 then 2 else if t.op = 5 then 3 else 4
theorem lev_strength (t : Tree) : strengthI t = (lev t : Int) + 1 := by
  unfold strengthI lev
  repeat' split
  all_goals simp
theorem lev_le (t : Tree) : lev t ≤ 4 := by
  unfold lev
  repeat' split
  all_goals omega

/-- The text of a part, as a list. -/
def partL (k : Nat) (t : Tree) : Rest := (partB (textB t) (strengthI t) ((k : Int) + 1)).data.toList
def TripOk (t : Tree) : Prop := Reads (lev t) (textB t).data.toList t ∧ NoSp (textB t).data.toList

theorem part_read {t : Tree} (h : TripOk t) {k : Nat} (hk : k ≤ 4) : Reads k (partL k t) t ∧ NoSp (partL k t) := by
  obtain ⟨h1, h2⟩ := h
  have hl := lev_le t
  unfold partL partB
  rw [lev_strength]
  by_cases hc : (lev t : Int) + 1 < (k : Int) + 1
  · rw [if_pos hc]
    have e : (⟨#[40]⟩ ++ textB t ++ ⟨#[41]⟩ : ByteArray).data.toList = 40 :: ((textB t).data.toList ++ [41]) := by simp
    rw [e]
    exact ⟨(reads_par4 (h1.to h2 (Nat.zero_le _) hl) h2 [41] (.inl rfl)).to (nosp_par _) hk (Nat.le_refl _), nosp_par _⟩
  · rw [if_neg hc]
    exact ⟨h1.to h2 (by omega) hl, h2⟩

theorem pair_read (op : Int) {s : Rest} (hs : NoSp s) (htk : ∀ y, tok (s ++ y) = s) {kl kr n : Nat} {r : Rest} (hb : Bnd r) (hel : ∀ y, Ends kl (32 :: (s ++ y))) (her : Ends kr r)
    {x : Rest} {t : Tree} (hx : Reads kl x t) (hxn : 8 * x.length + 7 - kl ≤ n) {y : Rest} {u : Tree} (hy : Reads kr y u) (hyn : 8 * y.length + 7 - kr ≤ n) (hny : NoSp y) :
    pairP op s (pF n kl) (pF n kr) (x ++ (J s [y] ++ r)) = (some (.node op ⟨#[]⟩ [t, u]), skipS r) := by
  have e : J s [y] ++ r = 32 :: (s ++ (32 :: (y ++ r))) := by simp [J]
  have e3 := hx n (J s [y] ++ r) hxn (by rw [e]; exact bnd_sp _) (by rw [e]; exact hel _)
  have e4 : skipS (J s [y] ++ r) = s ++ (32 :: (y ++ r)) := by rw [e, skip_sp, skip_nosp hs]
  have e2 : nxt (s ++ (32 :: (y ++ r))) = y ++ r := by
    unfold nxt
    rw [htk, List.drop_left, skip_sp, skip_nosp hny]
  unfold pairP
  rw [e3, e4]
  simp only
  rw [if_pos (htk _), e2, hy n r hyn hb her]

theorem okUpto_at {l : List UInt8} : ∀ {n : Nat}, okUpto l n = true → ∀ k, k < n → fitsB ((l.getD k 0).toNat : Int) (k : Int) = true
  | 0, _, k, hk => by omega
  | n + 1, h, k, hk => by
    rw [okUpto, Bool.and_eq_true] at h
    by_cases e : k = n
    · subst e; exact h.2
    · exact okUpto_at h.1 k (by omega)
theorem fits_word {c i : Int} (h : fitsB c i = true) : inWI c = true := by
  unfold fitsB at h
  unfold inWI
  grind
theorem vn_word {name : ByteArray} (h : vn name = true) : (∀ c ∈ name.data.toList, inW c = true) ∧ ∃ c y, name.data.toList = c :: y ∧ 97 ≤ c.toNat ∧ c.toNat ≤ 122 := by
  unfold vn at h
  rw [Bool.and_eq_true, decide_eq_true_eq] at h
  obtain ⟨⟨h1, h2⟩, h3⟩ := h
  have hl := size_data name
  have hat := okUpto_at h3
  refine ⟨fun c hc => ?_, ?_⟩
  · obtain ⟨k, hk, rfl⟩ := List.mem_iff_getElem.1 hc
    have := fits_word (hat k (by omega))
    rw [List.getD_eq_getElem?_getD, List.getElem?_eq_getElem hk] at this
    exact this
  · cases hd : name.data.toList with
    | nil => rw [hd] at hl; simp at hl; omega
    | cons c y =>
      refine ⟨c, y, rfl, ?_⟩
      have := hat 0 h1
      rw [hd] at this
      simp [fitsB] at this
      omega

theorem ends_sign {s : Rest} (hs : NoSp s) (htk : ∀ y, tok (s ++ y) = s) {k : Nat} (h : ∀ j, k ≤ j → j ≤ 3 → s ≠ sg j) (y : Rest) : Ends k (32 :: (s ++ y)) := fun j h1 h2 => by
  rw [skip_sp, skip_nosp hs, htk]
  exact h j h1 h2

theorem word_read {x : Rest} {t : Tree} (h1 : ∀ c ∈ x, inW c = true) (hx : NoSp x) (hv : x = [48] ∨ x = [49] ∨ vn ⟨x.toArray⟩ = true) (hne : x ≠ [126])
    (h : ∀ n r, tok (x ++ r) = x → pF (n + 1) 5 (x ++ r) = (some t, nxt (x ++ r))) : Reads 4 x t := by
  have hnil : x ≠ [] := by obtain ⟨c, y, rfl, -⟩ := hx; simp
  refine Reads.prim (fun n r hn hb _ => ?_) hx fun r hb => by rw [tok_word' h1 hnil hb hv]; exact hne
  have hl := hx.len
  obtain ⟨m, rfl⟩ : ∃ m, n = m + 1 := ⟨n - 1, by omega⟩
  have ht := tok_word' h1 hnil hb hv
  rw [h m r ht, nxt_word ht]

theorem empty_name {name : ByteArray} (h : (name.size == 0) = true) : name = ⟨#[]⟩ := by
  have h' : name.size = 0 := by simpa using h
  obtain ⟨a⟩ := name
  have : a.size = 0 := h'
  rw [Array.eq_empty_of_size_eq_zero this]

theorem trip_ok : ∀ t : Tree, t.all kindB = true → t.all nameB = true → TripOk t := by
  refine Tree.ind fun op name ts ih hk hn => ?_
  obtain ⟨k1, k2⟩ := all_self hk
  obtain ⟨n1, n2⟩ := all_self hn
  have hargs := kindB_args k1
  have IH : ∀ t ∈ ts, TripOk t := fun t ht => ih t ht (allL_mem k2 t ht) (allL_mem n2 t ht)
  simp only [Tree.op_node, Tree.args_node] at hargs
  have hop : op = 1 ∨ op = 2 ∨ op = 3 ∨ op = 4 ∨ op = 5 ∨ op = 6 ∨ op = 7 ∨ op = 8 := by
    unfold kindB at k1
    simp only [Tree.op_node] at k1
    grind
  have hleaf : (op = 1 ∨ op = 2 ∨ op = 3) → ts = [] := fun h => by
    have k1' : (if op = 1 ∨ op = 2 ∨ op = 3 then ts.length == 0 else if op = 4 then ts.length == 1 else if op = 5 ∨ op = 6 then decide (2 ≤ ts.length ∧ ts.length ≤ 6) else if op = 7 ∨ op = 8 then ts.length == 2 else false) = true := k1
    rw [if_pos h] at k1'
    simpa using k1'
  have hname : op ≠ 3 → name = ⟨#[]⟩ := fun h => by
    have n1' : (if op = 3 then vn name else name.size == 0) = true := n1
    rw [if_neg h] at n1'
    exact empty_name n1'
  have hPL : ∀ (k : Nat) (a : Tree), partB (textB a) (strengthI a) ((k : Int) + 1) = ⟨(partL k a).toArray⟩ := fun k a => by unfold partL; simp
  rcases hop with rfl | rfl | rfl | rfl | rfl | rfl | rfl | rfl
  · obtain rfl := hleaf (by simp)
    obtain rfl := hname (by omega)
    have e : (textB (.node 1 ⟨#[]⟩ [])).data.toList = [49] := by simp [textB]
    unfold TripOk
    rw [e]
    have hns : NoSp [49] := ⟨49, [], rfl, by decide⟩
    refine ⟨word_read (by decide) hns (by simp) (by decide) fun n r ht => ?_, hns⟩
    rw [pF5, ht, if_neg (by decide), if_neg (by decide), if_pos rfl]
  · obtain rfl := hleaf (by simp)
    obtain rfl := hname (by omega)
    have e : (textB (.node 2 ⟨#[]⟩ [])).data.toList = [48] := by simp [textB]
    unfold TripOk
    rw [e]
    have hns : NoSp [48] := ⟨48, [], rfl, by decide⟩
    refine ⟨word_read (by decide) hns (by simp) (by decide) fun n r ht => ?_, hns⟩
    rw [pF5, ht, if_neg (by decide), if_pos rfl]
  · obtain rfl := hleaf (by simp)
    have hv : vn name = true := by
      have n1' : (if (3 : Int) = 3 then vn name else name.size == 0) = true := n1
      rwa [if_pos rfl] at n1'
    have e : (textB (.node 3 name [])).data.toList = name.data.toList := by simp [textB]
    obtain ⟨h1, c, y, hc, h97, h122⟩ := vn_word hv
    have hne : ∀ d : UInt8, d.toNat < 97 ∨ 122 < d.toNat → name.data.toList ≠ [d] := fun d hd e' => by
      rw [hc] at e'
      injection e' with e1
      subst e1
      omega
    have hns : NoSp name.data.toList := ⟨c, y, hc, by
      rw [beq_eq_false_iff_ne]
      intro e'
      subst e'
      exact absurd h97 (by decide)⟩
    have hb : (⟨name.data.toList.toArray⟩ : ByteArray) = name := by simp
    unfold TripOk
    rw [e]
    refine ⟨word_read h1 hns (.inr (.inr (by rw [hb]; exact hv))) (hne 126 (by decide)) fun n r ht => ?_, hns⟩
    rw [pF5, ht, if_neg (hne 40 (by decide)), if_neg (hne 48 (by decide)), if_neg (hne 49 (by decide)), hb, if_pos hv]
  · obtain rfl := hname (by omega)
    obtain ⟨u, rfl⟩ := List.length_eq_one_iff.1 (hargs.1 rfl)
    obtain ⟨p1, p2⟩ := part_read (IH u (by simp)) (k := 4) (by omega)
    have e : (textB (.node 4 ⟨#[]⟩ [u])).data.toList = 126 :: partL 4 u := by
      have : textB (.node 4 ⟨#[]⟩ [u]) = ⟨#[126]⟩ ++ partB (textB u) (strengthI u) (((4 : Nat) : Int) + 1) := by simp [textB, textsB]
      rw [this, hPL]
      simp
    unfold TripOk
    rw [e]
    refine ⟨fun n r hn hb he => ?_, 126, _, rfl, by decide⟩
    have hl := p2.len
    have hlv : lev (.node 4 ⟨#[]⟩ [u]) = 4 := rfl
    rw [hlv] at hn he ⊢
    simp only [List.length_cons] at hn
    obtain ⟨m, rfl⟩ : ∃ m, n = m + 1 := ⟨n - 1, by omega⟩
    have e2 : nxt (126 :: (partL 4 u ++ r)) = partL 4 u ++ r := by
      unfold nxt
      rw [tok_not]
      exact skip_nosp p2 r
    show pF (m + 1) 4 (126 :: partL 4 u ++ r) = _
    rw [List.cons_append, pF4, tok_not, if_pos rfl, e2, p1 m r (by omega) hb (fun j h1 h2 => by omega)]
    rfl
  · obtain rfl := hname (by omega)
    obtain ⟨a, l, rfl, hl⟩ : ∃ a l, ts = a :: l ∧ l ≠ [] := by
      have h2 := (hargs.2.1 (by simp)).1
      match ts, h2 with
      | a :: b :: l, _ => exact ⟨a, b :: l, rfl, by simp⟩
    obtain ⟨p1, p2⟩ := part_read (IH a (by simp)) (k := 4) (by omega)
    have e : (textB (.node 5 ⟨#[]⟩ (a :: l))).data.toList = partL 4 a ++ J [38] (l.map (partL 4)) := by
      have h1 : textB (.node 5 ⟨#[]⟩ (a :: l)) = joinB ⟨#[32, 38, 32]⟩ (textsB 5 (a :: l)) := by simp [textB]
      have h2 : textsB 5 (a :: l) = ((a :: l).map fun t => partB (textB t) (strengthI t) (((4 : Nat) : Int) + 1)) := textsB_map 5 _
      rw [h1, h2, List.map_cons]
      show (List.foldl (fun a b => a ++ (⟨#[32, 38, 32]⟩ : ByteArray) ++ b) _ _).data.toList = _
      rw [join_fold ⟨#[32, 38, 32]⟩ [38] rfl, List.map_map]
      rfl
    have hsg : NoSp [38] := ⟨38, [], rfl, by decide⟩
    unfold TripOk
    rw [e]
    refine ⟨fun n r hn hb he => ?_, ?_⟩
    · have hl2 : ∀ x ∈ l.map (partL 4), x.length + 2 ≤ (J [38] (l.map (partL 4))).length := J_mem [38] _
      have hlv : lev (.node 5 ⟨#[]⟩ (a :: l)) = 3 := rfl
      rw [hlv] at hn he ⊢
      rw [List.length_append] at hn
      obtain ⟨m, rfl⟩ : ∃ m, n = m + 1 := ⟨n - 1, by omega⟩
      have hrr := row_read (s := [38]) (k := 4) (n := m) (r := r) 5 hsg tok_and hb (he 3 (by omega) (by omega)) (he.up (by omega)) (ends_sign hsg tok_and (by intro j h1 h2; rcases (by omega : j = 3 ∨ 4 ≤ 2 ∧ j ≠ 3 ∨ 4 ≤ j) with rfl | h | h <;> first | omega | decide)) (partL 4 a) a p1 (by omega) (l.map fun t => (partL 4 t, t)) (by simpa using hl) (fun p hp => by
        obtain ⟨t, ht, rfl⟩ := List.mem_map.1 hp
        obtain ⟨q1, q2⟩ := part_read (IH t (by simp [ht])) (k := 4) (by omega)
        have := hl2 (partL 4 t) (List.mem_map.2 ⟨t, ht, rfl⟩)
        exact ⟨q1, q2, by show 8 * (partL 4 t).length + 7 - 4 ≤ m; omega⟩)
      have f1 : (l.map fun t => (partL 4 t, t)).map Prod.fst = l.map (partL 4) := by rw [List.map_map]; rfl
      have f2 : (l.map fun t => (partL 4 t, t)).map Prod.snd = l := by rw [List.map_map]; exact List.map_id l
      rw [f1, f2] at hrr
      rw [List.append_assoc]
      exact hrr
    · obtain ⟨c, y, hc, h0⟩ := p2
      exact ⟨c, y ++ J [38] (l.map (partL 4)), by rw [hc]; rfl, h0⟩
  · obtain rfl := hname (by omega)
    obtain ⟨a, l, rfl, hl⟩ : ∃ a l, ts = a :: l ∧ l ≠ [] := by
      have h2 := (hargs.2.1 (by simp)).1
      match ts, h2 with
      | a :: b :: l, _ => exact ⟨a, b :: l, rfl, by simp⟩
    obtain ⟨p1, p2⟩ := part_read (IH a (by simp)) (k := 3) (by omega)
    have e : (textB (.node 6 ⟨#[]⟩ (a :: l))).data.toList = partL 3 a ++ J [124] (l.map (partL 3)) := by
      have h1 : textB (.node 6 ⟨#[]⟩ (a :: l)) = joinB ⟨#[32, 124, 32]⟩ (textsB 4 (a :: l)) := by simp [textB]
      have h2 : textsB 4 (a :: l) = ((a :: l).map fun t => partB (textB t) (strengthI t) (((3 : Nat) : Int) + 1)) := textsB_map 4 _
      rw [h1, h2, List.map_cons]
      show (List.foldl (fun a b => a ++ (⟨#[32, 124, 32]⟩ : ByteArray) ++ b) _ _).data.toList = _
      rw [join_fold ⟨#[32, 124, 32]⟩ [124] rfl, List.map_map]
      rfl
    have hsg : NoSp [124] := ⟨124, [], rfl, by decide⟩
    unfold TripOk
    rw [e]
    refine ⟨fun n r hn hb he => ?_, ?_⟩
    · have hl2 : ∀ x ∈ l.map (partL 3), x.length + 2 ≤ (J [124] (l.map (partL 3))).length := J_mem [124] _
      have hlv : lev (.node 6 ⟨#[]⟩ (a :: l)) = 2 := rfl
      rw [hlv] at hn he ⊢
      rw [List.length_append] at hn
      obtain ⟨m, rfl⟩ : ∃ m, n = m + 1 := ⟨n - 1, by omega⟩
      have hrr := row_read (s := [124]) (k := 3) (n := m) (r := r) 6 hsg tok_or hb (he 2 (by omega) (by omega)) (he.up (by omega)) (ends_sign hsg tok_or (by intro j h1 h2; rcases (by omega : j = 3 ∨ 3 ≤ 2 ∧ j ≠ 3 ∨ 4 ≤ j) with rfl | h | h <;> first | omega | decide)) (partL 3 a) a p1 (by omega) (l.map fun t => (partL 3 t, t)) (by simpa using hl) (fun p hp => by
        obtain ⟨t, ht, rfl⟩ := List.mem_map.1 hp
        obtain ⟨q1, q2⟩ := part_read (IH t (by simp [ht])) (k := 3) (by omega)
        have := hl2 (partL 3 t) (List.mem_map.2 ⟨t, ht, rfl⟩)
        exact ⟨q1, q2, by show 8 * (partL 3 t).length + 7 - 3 ≤ m; omega⟩)
      have f1 : (l.map fun t => (partL 3 t, t)).map Prod.fst = l.map (partL 3) := by rw [List.map_map]; rfl
      have f2 : (l.map fun t => (partL 3 t, t)).map Prod.snd = l := by rw [List.map_map]; exact List.map_id l
      rw [f1, f2] at hrr
      rw [List.append_assoc]
      exact hrr
    · obtain ⟨c, y, hc, h0⟩ := p2
      exact ⟨c, y ++ J [124] (l.map (partL 3)), by rw [hc]; rfl, h0⟩
  · obtain rfl := hname (by omega)
    obtain ⟨a, b, rfl⟩ : ∃ a b, ts = [a, b] := by
      have h2 := hargs.2.2 (by simp)
      match ts, h2 with
      | [a, b], _ => exact ⟨a, b, rfl⟩
    obtain ⟨p1, p2⟩ := part_read (IH a (by simp)) (k := 2) (by omega)
    obtain ⟨q1, q2⟩ := part_read (IH b (by simp)) (k := 1) (by omega)
    have e : (textB (.node 7 ⟨#[]⟩ [a, b])).data.toList = partL 2 a ++ J [45, 62] [partL 1 b] := by
      have h1 : textB (.node 7 ⟨#[]⟩ [a, b]) = partB (textB a) (strengthI a) (((2 : Nat) : Int) + 1) ++ ⟨#[32, 45, 62, 32]⟩ ++ partB (textB b) (strengthI b) (((1 : Nat) : Int) + 1) := by simp [textB, textsB, joinB]
      rw [h1, hPL, hPL]
      simp [J]
    have hsg : NoSp [45, 62] := ⟨_, _, rfl, by decide⟩
    unfold TripOk
    rw [e]
    refine ⟨fun n r hn hb he => ?_, ?_⟩
    · have hl2 := J_mem [45, 62] [partL 1 b] (partL 1 b) (by simp)
      have hlv : lev (.node 7 ⟨#[]⟩ [a, b]) = 1 := rfl
      rw [hlv] at hn he ⊢
      rw [List.length_append] at hn
      obtain ⟨m, rfl⟩ : ∃ m, n = m + 1 := ⟨n - 1, by omega⟩
      rw [List.append_assoc]
      exact pair_read 7 hsg tok_imp hb (ends_sign hsg tok_imp (by intro j h1 h2; rcases (by omega : j = 1 ∨ j = 2 ∨ j = 3) with rfl | rfl | rfl <;> first | omega | decide)) (he.up (by omega)) p1 (by omega) q1 (by omega) q2
    · obtain ⟨c, y, hc, h0⟩ := p2
      exact ⟨c, y ++ J [45, 62] [partL 1 b], by rw [hc]; rfl, h0⟩
  · obtain rfl := hname (by omega)
    obtain ⟨a, b, rfl⟩ : ∃ a b, ts = [a, b] := by
      have h2 := hargs.2.2 (by simp)
      match ts, h2 with
      | [a, b], _ => exact ⟨a, b, rfl⟩
    obtain ⟨p1, p2⟩ := part_read (IH a (by simp)) (k := 1) (by omega)
    obtain ⟨q1, q2⟩ := part_read (IH b (by simp)) (k := 1) (by omega)
    have e : (textB (.node 8 ⟨#[]⟩ [a, b])).data.toList = partL 1 a ++ J [60, 45, 62] [partL 1 b] := by
      have h1 : textB (.node 8 ⟨#[]⟩ [a, b]) = partB (textB a) (strengthI a) (((1 : Nat) : Int) + 1) ++ ⟨#[32, 60, 45, 62, 32]⟩ ++ partB (textB b) (strengthI b) (((1 : Nat) : Int) + 1) := by simp [textB, textsB, joinB]
      rw [h1, hPL, hPL]
      simp [J]
    have hsg : NoSp [60, 45, 62] := ⟨_, _, rfl, by decide⟩
    unfold TripOk
    rw [e]
    refine ⟨fun n r hn hb he => ?_, ?_⟩
    · have hl2 := J_mem [60, 45, 62] [partL 1 b] (partL 1 b) (by simp)
      have hlv : lev (.node 8 ⟨#[]⟩ [a, b]) = 0 := rfl
      rw [hlv] at hn he ⊢
      rw [List.length_append] at hn
      obtain ⟨m, rfl⟩ : ∃ m, n = m + 1 := ⟨n - 1, by omega⟩
      rw [List.append_assoc]
      exact pair_read 8 hsg tok_iff hb (ends_sign hsg tok_iff (by intro j h1 h2; rcases (by omega : j = 1 ∨ j = 2 ∨ j = 3) with rfl | rfl | rfl <;> first | omega | decide)) (he.up (by omega)) p1 (by omega) q1 (by omega) q2
    · obtain ⟨c, y, hc, h0⟩ := p2
      exact ⟨c, y ++ J [60, 45, 62] [partL 1 b], by rw [hc]; rfl, h0⟩

/-- A text that is read to its end. -/
theorem parse_of {u : ByteArray} {x : Rest} {t : Tree} (h : Reads 0 x t) (hx : NoSp x) (hu : skipS u.data.toList = x) (hs : u.size ≤ 4096) (hv : valE t = 0) : parseT u = (t, 0, 0) := by
  have h1 := h (8 * x.length + 7) [] (by omega) bnd_nil (ends_nil 0)
  rw [List.append_nil] at h1
  unfold parseT readT
  rw [if_neg (by omega), hu, h1]
  show judge u.size (some t, []) = _
  show judge u.size (some t, []) = _
  simp [judge, hv]

/-- What Format writes, also behind spaces and in parentheses. -/
theorem trip_text {t : Tree} (hv : valE t = 0) (hs : (textB t).size ≤ 4096) : parseT (textB t) = (t, 0, 0) := by
  obtain ⟨-, -, h3, h4⟩ := valE_zero hv
  obtain ⟨h1, h2⟩ := trip_ok t h3 h4
  refine parse_of (h1.to h2 (Nat.zero_le _) (lev_le t)) h2 ?_ hs hv
  have := skip_nosp h2 []
  rwa [List.append_nil] at this
theorem trip_spaces {t : Tree} (hv : valE t = 0) (hs : (textB t).size + 2 ≤ 4096) : parseT (⟨#[32, 32]⟩ ++ textB t) = (t, 0, 0) := by
  obtain ⟨-, -, h3, h4⟩ := valE_zero hv
  obtain ⟨h1, h2⟩ := trip_ok t h3 h4
  refine parse_of (h1.to h2 (Nat.zero_le _) (lev_le t)) h2 ?_ (by rw [ByteArray.size_append]; exact Nat.le_trans (Nat.le_of_eq (Nat.add_comm _ _)) hs) hv
  have := skip_nosp h2 []
  rw [List.append_nil] at this
  have e : (⟨#[32, 32]⟩ ++ textB t : ByteArray).data.toList = 32 :: 32 :: (textB t).data.toList := by simp
  rw [e, skip_sp, skip_sp, this]
theorem trip_pars {t : Tree} (hv : valE t = 0) (hs : (textB t).size + 6 ≤ 4096) : parseT (⟨#[40, 40]⟩ ++ textB t ++ ⟨#[32, 41, 32, 41]⟩) = (t, 0, 0) := by
  obtain ⟨-, -, h3, h4⟩ := valE_zero hv
  obtain ⟨h1, h2⟩ := trip_ok t h3 h4
  have r1 := (reads_par4 (h1.to h2 (Nat.zero_le _) (lev_le t)) h2 [32, 41] (.inr rfl)).to (nosp_par _) (Nat.zero_le _) (Nat.le_refl _)
  have r2 := (reads_par4 r1 (nosp_par _) [32, 41] (.inr rfl)).to (nosp_par _) (Nat.zero_le _) (Nat.le_refl _)
  refine parse_of r2 (nosp_par _) ?_ ?_ hv
  · have e : (⟨#[40, 40]⟩ ++ textB t ++ ⟨#[32, 41, 32, 41]⟩ : ByteArray).data.toList = 40 :: (40 :: ((textB t).data.toList ++ [32, 41]) ++ [32, 41]) := by simp
    rw [e]
    have := skip_nosp (nosp_par (40 :: ((textB t).data.toList ++ [32, 41]) ++ [32, 41])) []
    rwa [List.append_nil] at this
  · rw [ByteArray.size_append, ByteArray.size_append]
    have e1 : (⟨#[40, 40]⟩ : ByteArray).size = 2 := rfl
    have e2 : (⟨#[32, 41, 32, 41]⟩ : ByteArray).size = 4 := rfl
    omega
end Go.Proofs.YtmkcohcpdfabbaaDoor
