/- Texts of formulas: text, part, joined and Format of the program. -/
import Derived.Test.YtpiiadmjddikfaaDoorWithin
import Derived.Test.YtpiiadmjddikfaaDoorStrRow
import Derived.Test.YtpiiadmjddikfaaDoorShelf
namespace Go.Proofs.YtpiiadmjddikfaaDoor
set_option linter.unusedVariables false
set_option linter.unusedSimpArgs false
open Go.RowKit

def strengthI (t : Tree) : Int := if t.op = 8 then 1 else if t.op = 7 then 2 else if t.op = 6 then 3 else if t.op = 5 then 4 else 5

/-- In parentheses if the strength is less. -/
def partB (s : ByteArray) (n least : Int) : ByteArray := if n < least then ⟨#[40]⟩ ++ s ++ ⟨#[41]⟩ else s

/-- Texts with a sign between them. -/
def joinB (sign : ByteArray) : List ByteArray → ByteArray
  | [] => ⟨#[]⟩
  | s :: l => l.foldl (fun a b => a ++ sign ++ b) s

mutual
/-- The text of a formula. -/
def textB : Tree → ByteArray
  | .node op name ts =>
    if op = 1 then ⟨#[49]⟩ else if op = 2 then ⟨#[48]⟩
    else if op = 4 then ⟨#[126]⟩ ++ (textsB 5 ts).headD ⟨#[]⟩
    else if op = 5 then joinB ⟨#[32, 38, 32]⟩ (textsB 5 ts)
    else if op = 6 then joinB ⟨#[32, 124, 32]⟩ (textsB 4 ts)
    else if op = 7 then (textsB 3 ts).headD ⟨#[]⟩ ++ ⟨#[32, 45, 62, 32]⟩ ++ (textsB 2 ts).getD 1 ⟨#[]⟩
    else if op = 8 then joinB ⟨#[32, 60, 45, 62, 32]⟩ (textsB 2 ts)
    else name
def textsB (least : Int) : List Tree → List ByteArray
  | [] => []
  | t :: ts => partB (textB t) (strengthI t) least :: textsB least ts
end

theorem textsB_map (least : Int) : ∀ ts, textsB least ts = ts.map fun t => partB (textB t) (strengthI t) least
  | [] => rfl
  | t :: ts => by rw [textsB, textsB_map least ts]; rfl

def wellB (t : Tree) : Bool := kindB t && nameB t

theorem vn_size {s : ByteArray} (h : vn s = true) : s.size ≤ 12 := by
  simp only [vn, Bool.and_eq_true, decide_eq_true_eq] at h
  exact h.1.2
theorem nameB_size {t : Tree} (h : nameB t = true) : t.name.size ≤ 12 := by
  unfold nameB at h
  split at h
  · exact vn_size h
  · have := beq_iff_eq.1 h; omega
theorem size_nil : (⟨#[]⟩ : ByteArray).size = 0 := rfl
theorem size_lp : (⟨#[40]⟩ : ByteArray).size = 1 := rfl
theorem size_rp : (⟨#[41]⟩ : ByteArray).size = 1 := rfl

theorem size_append (a b : ByteArray) : (a ++ b).size = a.size + b.size := ByteArray.size_append
theorem partB_size (s : ByteArray) (n l : Int) : (partB s n l).size ≤ s.size + 2 := by
  unfold partB
  split
  · rw [size_append, size_append, size_lp, size_rp]; omega
  · omega
theorem joinB_size (sign : ByteArray) (l : List ByteArray) : (joinB sign l).size ≤ (l.map fun s => s.size + sign.size).sum := by
  cases l with
  | nil => simp only [joinB, size_nil]; omega
  | cons s l =>
    have key : ∀ (l : List ByteArray) (a : ByteArray), (l.foldl (fun a b => a ++ sign ++ b) a).size = a.size + (l.map fun s => s.size + sign.size).sum := by
      intro l
      induction l with
      | nil => simp
      | cons b l ih => intro a; rw [List.foldl_cons, ih]; simp only [size_append, List.map_cons, List.sum_cons]; omega
    simp only [joinB, key, List.map_cons, List.sum_cons]
    omega

theorem allL_mem {p : Tree → Bool} {l : List Tree} (h : allL p l = true) : ∀ t ∈ l, t.all p = true := by
  induction l with
  | nil => intro t ht; cases ht
  | cons a l ih =>
    simp only [allL, Bool.and_eq_true] at h
    intro t ht
    rcases List.mem_cons.1 ht with rfl | ht
    · exact h.1
    · exact ih h.2 t ht
theorem all_self {p : Tree → Bool} {op name ts} (h : (Tree.node op name ts).all p = true) : p (.node op name ts) = true ∧ allL p ts = true := by
  simpa [Tree.all] using h

/-- The texts of names are short. -/
theorem textB_size : ∀ t : Tree, t.all nameB = true → (textB t).size + 8 ≤ 20 * t.nodes := by
  refine Tree.ind fun op name ts ih h => ?_
  obtain ⟨h1, h2⟩ := all_self h
  have hn : name.size ≤ 12 := nameB_size h1
  have hsum : ∀ (k : Nat) (least : Int), k ≤ 5 → ((textsB least ts).map fun s => s.size + k).sum ≤ 20 * nodesL ts := by
    intro k least hk
    rw [textsB_map]
    have hm := allL_mem h2
    clear h h1 h2 hn
    induction ts with
    | nil => simp
    | cons t ts ih2 =>
      have h3 := ih t (by simp) (hm t (by simp))
      have h4 := ih2 (fun t ht => ih t (by simp [ht])) (fun t ht => hm t (by simp [ht]))
      have h5 := partB_size (textB t) (strengthI t) least
      simp only [List.map_cons, List.sum_cons, nodesL]
      omega
  have hhead : ∀ (least : Int) (i : Nat), ((textsB least ts).getD i ⟨#[]⟩).size ≤ 20 * nodesL ts := by
    intro least i
    have h0 := hsum 0 least (by omega)
    simp only [Nat.add_zero] at h0
    refine Nat.le_trans ?_ h0
    generalize textsB least ts = l
    induction l generalizing i with
    | nil => simp only [List.getD_nil, size_nil]; omega
    | cons s l ih3 =>
      cases i with
      | zero => simp
      | succ i => have := ih3 i; simp only [List.getD_cons_succ, List.map_cons, List.sum_cons]; omega
  have htwo : (((textsB 3 ts).getD 0 ⟨#[]⟩)).size + ((textsB 2 ts).getD 1 ⟨#[]⟩).size ≤ 20 * nodesL ts := by
    rw [textsB_map, textsB_map]
    have hm := allL_mem h2
    clear hsum hhead h h1 h2
    rcases ts with _ | ⟨t, _ | ⟨u, l⟩⟩
    · simp only [List.map_nil, List.getD_nil, size_nil]; omega
    · have h3 := ih t (by simp) (hm t (by simp))
      have h5 := partB_size (textB t) (strengthI t) 3
      simp only [nodesL, List.map_cons, List.map_nil, List.getD_cons_zero, List.getD_cons_succ, List.getD_nil, size_nil]
      omega
    · have h3 := ih t (by simp) (hm t (by simp))
      have h4 := ih u (by simp) (hm u (by simp))
      have h5 := partB_size (textB t) (strengthI t) 3
      have h6 := partB_size (textB u) (strengthI u) 2
      simp only [nodesL, List.map_cons, List.getD_cons_zero, List.getD_cons_succ]
      omega
  have hj : ∀ (sign : ByteArray) (least : Int), sign.size ≤ 5 → (joinB sign (textsB least ts)).size ≤ 20 * nodesL ts := fun sign least hs => Nat.le_trans (joinB_size _ _) (hsum _ _ hs)
  have hd := hhead 5 0
  rw [show ∀ l : List ByteArray, l.getD 0 ⟨#[]⟩ = l.headD ⟨#[]⟩ from fun l => by cases l <;> rfl] at hd
  rw [show ∀ l : List ByteArray, l.getD 0 ⟨#[]⟩ = l.headD ⟨#[]⟩ from fun l => by cases l <;> rfl] at htwo
  have j1 := hj ⟨#[32, 38, 32]⟩ 5 (by decide)
  have j2 := hj ⟨#[32, 124, 32]⟩ 4 (by decide)
  have j3 := hj ⟨#[32, 60, 45, 62, 32]⟩ 2 (by decide)
  have e1 : (⟨#[126]⟩ : ByteArray).size = 1 := rfl
  have e2 : (⟨#[32, 45, 62, 32]⟩ : ByteArray).size = 4 := rfl
  have e3 : (⟨#[49]⟩ : ByteArray).size = 1 := rfl
  have e4 : (⟨#[48]⟩ : ByteArray).size = 1 := rfl
  simp only [textB, Tree.nodes]
  repeat' split
  all_goals (try simp only [size_append])
  all_goals omega

theorem join_eq (sign : ByteArray) (l : List ByteArray) : (⟨(Lib.join (l.map (·.data.toList)) sign.data.toList).toArray⟩ : ByteArray) = joinB sign l := by
  have key : ∀ (l : List ByteArray) (s : ByteArray), (⟨(s.data.toList ++ Lib.joinTail sign.data.toList (l.map (·.data.toList))).toArray⟩ : ByteArray) = l.foldl (fun a b => a ++ sign ++ b) s := by
    intro l
    induction l with
    | nil => intro s; simp [Lib.joinTail]
    | cons b l ih =>
      intro s
      rw [List.foldl_cons, ← ih]
      congr 1
      simp [Lib.joinTail, ByteArray.data_append]
  cases l with
  | nil => rfl
  | cons s l => rw [List.map_cons, Lib.join_cons]; exact key l s

/-- text, at this formula. -/
def TextOk (t : Tree) : Prop := ∀ (v : Value) (w : World), FormAt w none v t → Calls Tryd.prog 31 #[v] w fun e w' => e = .returned (.string (textB t)) ∧ Below w.heap.size w w'

set_option maxHeartbeats 400000 in
theorem strength_any (t : Tree) (v : Value) (w : World) (h : FormAt w none v t) :
    Calls Tryd.prog 71 #[v] w fun e w' => e = .returned (.int .i64 (strengthI t)) ∧ Below w.heap.size w w' := by
  obtain ⟨a, cap, b, off, rfl, hop, hname, hlen, hcap, -, -⟩ := h.form
  have hK : Hid (strengthI t = if t.op = 8 then 1 else if t.op = 7 then 2 else if t.op = 6 then 3 else if t.op = 5 then 4 else 5) := rfl
  have hb : Hid (Below w.heap.size w (w.alloc (.cells #[.int .i64 t.op, .string t.name, .slice a t.args.length cap] 24))) := (Below.refl _ _).alloc (Nat.le_refl _) _
  generalize strengthI t = kb at *
  generalize t.args.length = n at *
  generalize t.op = op at *
  generalize t.name = nm at *
  clear h
  go_enter Tryd.func71, Tryd.ntmps71
  go_wp2
  all_goals (go_ret; refine ⟨ret_int ?_, hb.out⟩; rw [hK.out]; grind)

set_option maxHeartbeats 400000 in
theorem part_any (t : Tree) (ht : TextOk t) (hsz : (textB t).size ≤ 1000000) (v : Value) (least : Int) (hl : 0 ≤ least) (hl' : least ≤ 9) (w : World) (h : FormAt w none v t) :
    Calls Tryd.prog 51 #[v, .int .i64 least] w fun e w' => e = .returned (.string (partB (textB t) (strengthI t) least)) ∧ Below w.heap.size w w' := by
  obtain ⟨a, cap, b, off, rfl, hop, hname, hlen, hcap, -, -⟩ := h.form
  have H := hidIt (h.go ((Below.refl _ _).alloc (Nat.le_refl _) (.cells #[.int .i64 t.op, .string t.name, .slice a t.args.length cap] 24)))
  have HT := hidIt ht
  clear h ht
  by_cases hlt : strengthI t < least
  · have HE : Hid (partB (textB t) (strengthI t) least = ⟨#[40]⟩ ++ textB t ++ ⟨#[41]⟩) := by show _ = _; simp [partB, hlt]
    go_enter Tryd.func51, Tryd.ntmps51
    go_wp2_with fail
    refine (strength_any t _ _ H.out).mono ?_
    rintro e w' ⟨rfl, hb⟩
    have HB := hidIt (below_box hb)
    obtain ⟨p0, p1, p2⟩ := cell_of3 (laid_box hb)
    have hsz : w.heap.size < w'.heap.size := lt_of_block (laid_box hb)
    have HF := hidIt (H.out.go hb)
    clear hb
    go_wp2_with fail
    refine (HT.out _ _ HF.out).mono ?_
    rintro e w2 ⟨rfl, hb2⟩
    have HB2 := hidIt (HB.out.trans (hb2.mono HB.out.size))
    clear hb2
    go_wp2_with fail
    go_ret
    exact ⟨ret_str' HE.out.symm, HB2.out⟩
  · have HE : Hid (partB (textB t) (strengthI t) least = textB t) := by show _ = _; simp [partB, hlt]
    go_enter Tryd.func51, Tryd.ntmps51
    go_wp2_with fail
    refine (strength_any t _ _ H.out).mono ?_
    rintro e w' ⟨rfl, hb⟩
    have HB := hidIt (below_box hb)
    obtain ⟨p0, p1, p2⟩ := cell_of3 (laid_box hb)
    have hsz : w.heap.size < w'.heap.size := lt_of_block (laid_box hb)
    have HF := hidIt (H.out.go hb)
    clear hb
    go_wp2_with fail
    refine (HT.out _ _ HF.out).mono ?_
    rintro e w2 ⟨rfl, hb2⟩
    have HB2 := hidIt (HB.out.trans (hb2.mono HB.out.size))
    clear hb2
    go_wp2_with fail
    go_ret
    exact ⟨ret_str' HE.out.symm, HB2.out⟩

theorem sum_map_le {α : Type} (l : List α) (f : α → Nat) (B : Nat) (h : ∀ x ∈ l, f x ≤ B) : (l.map f).sum ≤ l.length * B := by
  induction l with
  | nil => simp
  | cons x l ih =>
    have h1 := h x (by simp)
    have h2 := ih fun y hy => h y (by simp [hy])
    simp only [List.map_cons, List.sum_cons, List.length_cons, Nat.add_mul]
    omega

theorem take_set_snoc {α : Type} (l m : List α) (k : Nat) (x : α) (hk : k < l.length) (hm : k < m.length) (hx : x = m[k]) (h : l.take k = m.take k) : (l.set k x).take (k + 1) = m.take (k + 1) := by
  rw [take_snoc' m k hm, take_snoc' _ k (by rw [List.length_set]; exact hk), List.take_set_of_le (Nat.le_refl _), h, List.getElem_set_self, hx]

set_option maxRecDepth 100000 in
set_option maxHeartbeats 1000000 in
theorem joined_any (sign : ByteArray) (hs : sign.size ≤ 5) (least : Int) (hl : 0 ≤ least) (hl' : least ≤ 9) (ts : List Tree) (ht : ∀ t ∈ ts, TextOk t) (hsz : ∀ t ∈ ts, (textB t).size ≤ 1000000) (hn : ts.length ≤ 600) (a : Option Addr) (cap : Nat) (w : World) (h : FormsAt w none a ts) :
    Calls Tryd.prog 52 #[.slice a ts.length cap, .string sign, .int .i64 least] w fun e w' => e = .returned (.string (joinB sign (textsB least ts))) ∧ Below w.heap.size w w' := by
  have HF := hidIt h
  have HT := hidIt ht
  have HS := hidIt hsz
  have hmk := fun w => make_strs' ts.length (by omega) w
  obtain ⟨parts, hparts⟩ : ∃ p, p = textsB least ts := ⟨_, rfl⟩
  have hpl : parts.length = ts.length := by rw [hparts, textsB_map, List.length_map]
  have hpk : Hid (∀ k (h1 : k < parts.length) (h2 : k < ts.length), parts[k] = partB (textB ts[k]) (strengthI ts[k]) least) := by
    intro k h1 h2
    subst hparts
    simp only [textsB_map, List.getElem_map]
  have hps : Hid ((Lib.join (parts.map (·.data.toList)) sign.data.toList).length ≤ 140737488355328) := by
    have e : (Lib.join (parts.map (·.data.toList)) sign.data.toList).length = (joinB sign parts).size := by
      rw [← join_eq]
      simp [ByteArray.size]
    have h1 := joinB_size sign parts
    have h2 := sum_map_le parts (fun s => s.size + sign.size) 1000010 (fun s hs' => by
      obtain ⟨k, hk, rfl⟩ := List.mem_iff_getElem.1 hs'
      have hk2 : k < ts.length := by omega
      have e2 := hpk.out k hk hk2
      have h3 := partB_size (textB ts[k]) (strengthI ts[k]) least
      have h4 := hsz _ (List.getElem_mem hk2)
      show parts[k].size + sign.size ≤ _
      rw [e2]
      omega)
    show _ ≤ _
    rw [e]
    have h5 : parts.length * 1000010 ≤ 600 * 1000010 := Nat.mul_le_mul_right _ (by omega)
    omega
  rw [← hparts]
  clear h ht hsz hparts
  go_enter Tryd.func52, Tryd.ntmps52
  go_wp2_with fail
  go_loopw [15] (fun i wr => ∃ (k : Nat) (l : List ByteArray), k ≤ ts.length ∧ i = .int .i64 k ∧ Hid (l.length = ts.length) ∧ Hid (l.take k = parts.take k) ∧ Hid (StrRow wr w.heap.size l) ∧ Hid (Below w.heap.size w wr)) (fun i _ => ts.length - (intOf i).toNat)
  case atStart => exact ⟨0, List.replicate ts.length ⟨#[]⟩, Nat.zero_le _, rfl, by show _ = _; simp, by show _ = _; simp, StrRow.made w _, (Below.refl _ _).alloc (Nat.le_refl _) _⟩
  case round =>
    clear hmk
    obtain ⟨k, l, hk, rfl, hll, hlk, hrow, hbel⟩ := hrel
    by_cases hlt : k < ts.length
    · obtain ⟨b, off, a', c', rfl, c0, c1, c2, hf⟩ := (HF.out.go hbel.out).at k hlt
      have HF1 := hidIt hf
      have hm : ts[k] ∈ ts := List.getElem_mem hlt
      have htk := hidIt (HT.out _ hm)
      have hsk := HS.out _ hm
      have hx := hidIt (hpk.out k (by omega) hlt)
      clear hf
      generalize ts[k] = t at *
      go_wp2_with fail
      refine (part_any t htk.out hsk _ least hl hl' _ (HF1.out.go ((Below.refl _ _).alloc (Nat.le_refl _) _))).mono ?_
      rintro e w' ⟨rfl, hb⟩
      have hrow' := hrow.out.kept (below_box hb)
      have HR := hidIt hrow'
      have s0 := hrow'.cell k (by rw [hll.out]; exact hlt)
      have f0 := hrow'.free k
      have hsz := hrow'.lt
      have HB := hidIt (hbel.out.trans ((below_box hb).mono hbel.out.size))
      clear hb hrow'
      go_wp2_with fail
      go_roundw
      case rel =>
        exact ⟨k + 1, l.set k (partB (textB t) (strengthI t) least), by omega, by go_num, by show _ = _; rw [List.length_set]; exact hll.out,
          take_set_snoc l parts k _ (by rw [hll.out]; exact hlt) (by omega) hx.out.symm hlk.out, HR.out.set k _, HB.out.setCell (Nat.le_refl _) _⟩
      case measure => simp [intOf]; omega
    · have hkn : k = ts.length := by omega
      have hlp : Hid (l = parts) := by
        have := hlk.out
        rwa [List.take_of_length_le (by rw [hll.out]; omega), List.take_of_length_le (by omega)] at this
      have hrow' := hrow.out
      rw [hlp.out] at hrow'
      have HJ := hidIt (Tryd.strings_Join w.heap.size 0 ts.length parts sign wr (fun j x hj => by
        obtain ⟨hj1, hj2⟩ := List.getElem?_eq_some_iff.1 hj
        rw [Nat.zero_add, ← hj2]
        exact hrow'.cell j hj1) hrow'.lt (by omega) (by omega) hps.out)
      rw [hpl] at HJ
      clear hrow' hkn
      go_wp2_with fail
      refine HJ.out.mono ?_
      rintro e w2 ⟨rfl, hb2⟩
      have HB2 := hidIt (hbel.out.trans (hb2.mono hbel.out.size))
      clear hb2
      go_wp2
      go_ret
      exact ⟨ret_str' (join_eq sign parts), HB2.out⟩

theorem len_two {α : Type} {l : List α} (h : l.length = 2) : ∃ t u, l = [t, u] := by
  match l, h with
  | [t, u], _ => exact ⟨t, u, rfl⟩

theorem kindB_args {t : Tree} (h : kindB t = true) : (t.op = 4 → t.args.length = 1) ∧ (t.op = 5 ∨ t.op = 6 → 2 ≤ t.args.length ∧ t.args.length ≤ 6) ∧ (t.op = 7 ∨ t.op = 8 → t.args.length = 2) := by
  unfold kindB at h
  refine ⟨fun e => ?_, fun e => ?_, fun e => ?_⟩ <;> grind

theorem wellB_split {p q : Tree → Bool} : ∀ t : Tree, t.all (fun t => p t && q t) = (t.all p && t.all q) := by
  refine Tree.ind fun op name ts ih => ?_
  have key : allL (fun t => p t && q t) ts = (allL p ts && allL q ts) := by
    induction ts with
    | nil => rfl
    | cons t ts ih2 =>
      simp only [allL, ih t (by simp), ih2 fun t ht => ih t (by simp [ht])]
      generalize t.all p = x1; generalize t.all q = x2; generalize allL p ts = x3; generalize allL q ts = x4
      cases x1 <;> cases x2 <;> cases x3 <;> cases x4 <;> rfl
  simp only [Tree.all, key]
  generalize p (.node op name ts) = x1; generalize q (.node op name ts) = x2; generalize allL p ts = x3; generalize allL q ts = x4
  cases x1 <;> cases x2 <;> cases x3 <;> cases x4 <;> rfl

set_option maxRecDepth 100000 in
set_option maxHeartbeats 1000000 in
theorem text_any : ∀ t : Tree, t.all kindB = true → t.all nameB = true → t.nodes ≤ 600 → TextOk t := by
  refine Tree.ind fun op name ts ih hk hnm hn v w hv => ?_
  obtain ⟨k1, k2⟩ := all_self hk
  obtain ⟨n1, n2⟩ := all_self hnm
  have hargs := kindB_args k1
  have hnn : 1 + nodesL ts ≤ 600 := by simpa [Tree.nodes] using hn
  have hlen := nodes_len_le ts
  have IH : ∀ t ∈ ts, TextOk t := fun t ht => ih t ht (allL_mem k2 t ht) (allL_mem n2 t ht) (by have := nodes_mem_le ht; omega)
  have HSZ : ∀ t ∈ ts, (textB t).size ≤ 1000000 := fun t ht => by have := textB_size t (allL_mem n2 t ht); have := nodes_mem_le ht; omega
  obtain ⟨a, cap, b, off, rfl, hop, hname, hlen', hcap, -, -⟩ := hv.form
  have HFS := hidIt hv.forms
  simp only [Tree.op_node, Tree.name_node, Tree.args_node] at *
  have hop8 : op = 1 ∨ op = 2 ∨ op = 3 ∨ op = 4 ∨ op = 5 ∨ op = 6 ∨ op = 7 ∨ op = 8 := by
    unfold kindB at k1
    simp only [Tree.op_node] at k1
    grind
  clear ih hk hnm k1 k2 n1 n2 hv hn hop
  obtain ⟨h4, h5, h7⟩ := hargs
  have IHH := hidIt IH
  have HSZH := hidIt HSZ
  clear IH HSZ
  rcases hop8 with rfl | rfl | rfl | rfl | rfl | rfl | rfl | rfl
  · have HE : Hid (textB (.node 1 name ts) = ⟨#[49]⟩) := by show _ = _; simp [textB]
    clear h4 h5 h7
    go_enter Tryd.func31, Tryd.ntmps31
    go_wp2_with fail
    go_ret
    exact ⟨ret_str' HE.out.symm, (Below.refl _ _).alloc (Nat.le_refl _) _⟩
  · have HE : Hid (textB (.node 2 name ts) = ⟨#[48]⟩) := by show _ = _; simp [textB]
    clear h4 h5 h7
    go_enter Tryd.func31, Tryd.ntmps31
    go_wp2_with fail
    go_ret
    exact ⟨ret_str' HE.out.symm, (Below.refl _ _).alloc (Nat.le_refl _) _⟩
  · have HE : Hid (textB (.node 3 name ts) = name) := by show _ = _; simp [textB]
    clear h4 h5 h7
    go_enter Tryd.func31, Tryd.ntmps31
    go_wp2_with fail
    go_ret
    exact ⟨ret_str' HE.out.symm, (Below.refl _ _).alloc (Nat.le_refl _) _⟩
  · obtain ⟨t, rfl⟩ : ∃ t, ts = [t] := List.length_eq_one_iff.1 (h4 rfl)
    have HE : Hid (textB (.node 4 name [t]) = ⟨#[126]⟩ ++ partB (textB t) (strengthI t) 5) := by show _ = _; simp [textB, textsB]
    have ht := hidIt (IHH.out t (by simp))
    have hts := HSZH.out t (by simp)
    have hps := partB_size (textB t) (strengthI t) 5
    obtain ⟨b', off', a', c', rfl, c0, c1, c2, hf⟩ := HFS.out.at 0 (by simp)
    simp only [List.getElem_cons_zero] at c0 c1 c2 hf
    have HF := hidIt hf
    have hbl := World.block_lt_of_cell? w ⟨b', off' + 0 * 3, none⟩ c0
    simp only [Nat.zero_mul, Nat.add_zero, List.length_singleton] at c0 c1 c2 hbl hlen'
    have h01 : ([t] : List Tree).length = 1 := rfl
    rw [h01]
    clear hf h4 h5 h7
    go_enter Tryd.func31, Tryd.ntmps31
    go_wp2_with fail
    refine (part_any t ht.out hts _ 5 (by omega) (by omega) _ (HF.out.go ((Below.refl _ _).alloc (Nat.le_refl _) _))).mono ?_
    rintro e w' ⟨rfl, hb⟩
    have HB := hidIt (below_box hb)
    clear hb
    go_wp2_with fail
    go_ret
    exact ⟨ret_str' HE.out.symm, HB.out⟩
  · have HE : Hid (textB (.node 5 name ts) = joinB ⟨#[32, 38, 32]⟩ (textsB 5 ts)) := by show _ = _; simp [textB]
    clear h4 h5 h7
    go_enter Tryd.func31, Tryd.ntmps31
    go_wp2_with fail
    refine (joined_any ⟨#[32, 38, 32]⟩ (by decide) 5 (by omega) (by omega) ts IHH.out HSZH.out (by omega) a cap _ (HFS.out.go ((Below.refl _ _).alloc (Nat.le_refl _) _))).mono ?_
    rintro e w' ⟨rfl, hb⟩
    have HB := hidIt (below_box hb)
    clear hb
    go_wp2_with fail
    go_ret
    exact ⟨ret_str' HE.out.symm, HB.out⟩
  · have HE : Hid (textB (.node 6 name ts) = joinB ⟨#[32, 124, 32]⟩ (textsB 4 ts)) := by show _ = _; simp [textB]
    clear h4 h5 h7
    go_enter Tryd.func31, Tryd.ntmps31
    go_wp2_with fail
    refine (joined_any ⟨#[32, 124, 32]⟩ (by decide) 4 (by omega) (by omega) ts IHH.out HSZH.out (by omega) a cap _ (HFS.out.go ((Below.refl _ _).alloc (Nat.le_refl _) _))).mono ?_
    rintro e w' ⟨rfl, hb⟩
    have HB := hidIt (below_box hb)
    clear hb
    go_wp2_with fail
    go_ret
    exact ⟨ret_str' HE.out.symm, HB.out⟩
  · obtain ⟨t, u, rfl⟩ : ∃ t u, ts = [t, u] := len_two (h7 (.inl rfl))
    have HE : Hid (textB (.node 7 name [t, u]) = partB (textB t) (strengthI t) 3 ++ ⟨#[32, 45, 62, 32]⟩ ++ partB (textB u) (strengthI u) 2) := by show _ = _; simp [textB, textsB]
    have ht := hidIt (IHH.out t (by simp))
    have hts := HSZH.out t (by simp)
    have hps := partB_size (textB t) (strengthI t) 3
    have hu := hidIt (IHH.out u (by simp))
    have hus := HSZH.out u (by simp)
    have hpu := partB_size (textB u) (strengthI u) 2
    obtain ⟨b', off', a', c', rfl, c0, c1, c2, hf⟩ := HFS.out.at 0 (by simp)
    obtain ⟨b2, off2, a2, c2', e2, d0, d1, d2, hf2⟩ := HFS.out.at 1 (by simp)
    obtain ⟨rfl, rfl⟩ : b2 = b' ∧ off2 = off' := by
      injection e2 with e2
      injection e2 with e3 e4
      exact ⟨e3.symm, e4.symm⟩
    simp only [List.getElem_cons_zero, List.getElem_cons_succ] at c0 c1 c2 hf d0 d1 d2 hf2
    simp only [Nat.zero_mul, Nat.add_zero, Nat.one_mul] at c0 c1 c2 d0 d1 d2
    simp only [List.length_cons, List.length_nil] at hlen'
    have h01 : ([t, u] : List Tree).length = 2 := rfl
    rw [h01]
    have HBX : Hid (Below w.heap.size w (w.alloc (.cells #[.int .i64 7, .string name, .slice (some ⟨b2, off2, none⟩) 2 cap] 24))) := (Below.refl _ _).alloc (Nat.le_refl _) _
    have hbl := World.block_lt_of_cell? w ⟨b2, off2, none⟩ c0
    have k2 : (w.alloc (.cells #[.int .i64 7, .string name, .slice (some ⟨b2, off2, none⟩) 2 cap] 24)).cell? ⟨w.heap.size, 2, none⟩ = some (.slice (some ⟨b2, off2, none⟩) 2 cap) := (cell_of3 (heap_alloc_new w _)).2.2
    rw [← HBX.out.cell (p := ⟨b2, off2, none⟩) hbl] at c0
    rw [← HBX.out.cell (p := ⟨b2, off2 + 1, none⟩) hbl] at c1
    rw [← HBX.out.cell (p := ⟨b2, off2 + 2, none⟩) hbl] at c2
    rw [← HBX.out.cell (p := ⟨b2, off2 + 3, none⟩) hbl] at d0
    rw [← HBX.out.cell (p := ⟨b2, off2 + 3 + 1, none⟩) hbl] at d1
    rw [← HBX.out.cell (p := ⟨b2, off2 + 3 + 2, none⟩) hbl] at d2
    have HF := hidIt (hf.go HBX.out)
    have HF2 := hidIt (hf2.go HBX.out)
    have K0 := fun y => Ext.cell c0 y
    have K1 := fun y => Ext.cell c1 y
    have K2 := fun y => Ext.cell c2 y
    have L0 := fun y => Ext.cell d0 y
    have L1 := fun y => Ext.cell d1 y
    have L2 := fun y => Ext.cell d2 y
    have M2 := fun y => Ext.cell k2 y
    clear hf hf2 h4 h5 h7 c0 c1 c2 d0 d1 d2 k2 e2
    go_enter Tryd.func31, Tryd.ntmps31
    go_wp2_with fail
    generalize (w.alloc (.cells #[.int .i64 7, .string name, .slice (some ⟨b2, off2, none⟩) 2 cap] 24)) = W at *
    haveI := Ext.nonempty W
    refine wp_region_in (Ext W) (by kernel_rfl) (by kernel_rfl) (Ext.start W) ?_
    repeat (go_big_quiet_step (first
      | (with_reducible (refine Ext.call (part_any t ht.out hts _ 3 (by omega) (by omega) _ (FormAt.go HF.out (In.h _)))))
      | (with_reducible (refine Ext.call (part_any u hu.out hus _ 2 (by omega) (by omega) _ (FormAt.go HF2.out (In.h _)))))))
    refine wpQuiet_nil ?_
    rintro w5 ⟨⟨_, h5⟩, rfl⟩
    have HB5 : Hid (Below w.heap.size w w5) := HBX.out.trans (Below.mono h5 HBX.out.size)
    clear h5 K0 K1 K2 L0 L1 L2 M2
    go_wp2_with fail
    go_ret
    exact ⟨ret_str' HE.out.symm, HB5.out⟩
  · have HE : Hid (textB (.node 8 name ts) = joinB ⟨#[32, 60, 45, 62, 32]⟩ (textsB 2 ts)) := by show _ = _; simp [textB]
    clear h4 h5 h7
    go_enter Tryd.func31, Tryd.ntmps31
    go_wp2_with fail
    refine (joined_any ⟨#[32, 60, 45, 62, 32]⟩ (by decide) 2 (by omega) (by omega) ts IHH.out HSZH.out (by omega) a cap _ (HFS.out.go ((Below.refl _ _).alloc (Nat.le_refl _) _))).mono ?_
    rintro e w' ⟨rfl, hb⟩
    have HB := hidIt (below_box hb)
    clear hb
    go_wp2_with fail
    go_ret
    exact ⟨ret_str' HE.out.symm, HB.out⟩
end Go.Proofs.YtpiiadmjddikfaaDoor
