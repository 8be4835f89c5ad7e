/-
  How a block is read: plain mathematics, no program.
-/
import Derived.Test.YteemfhhhdhddhaaOnceM
import Derived.Test.YteemfhhhdhddhaaRefB2
namespace Go.Proofs.Yteemfhhhdhddhaa
open Go.RowKit
set_option linter.unusedSectionVars false
variable [Inhabited E] [DecidableEq E]
def finE (e : E) (n : Nat) : Option (E × Nat) := if rightB e = true then some (e, n) else none
def keyE (ah : ByteArray) (sh : Nat) (s : List UInt8) : ByteArray := bStr ((strB ah).take sh ++ s)
/-- An entry off the front of bytes, behind one with the key ah, and how many bytes it has. -/
def entOf (ah : ByteArray) (bs : List UInt8) : Option (E × Nat) :=
  if (getB bs).2.2 = false then none else
  if ah.size < (getB bs).1 then none else
  if (textOf (bs.drop (getB bs).2.1)).2.2 = false then none else
  if (getB bs).1 ≠ comN (strB ah) (strB (keyE ah (getB bs).1 (textOf (bs.drop (getB bs).2.1)).1)) then none else
  match bs.drop ((getB bs).2.1 + (textOf (bs.drop (getB bs).2.1)).2.1) with
  | [] => none
  | t :: r =>
    if 1 < t.toNat then none else
    if (getB r).2.2 = false then none else
    if t.toNat = 1 then finE ⟨keyE ah (getB bs).1 (textOf (bs.drop (getB bs).2.1)).1, ⟨#[]⟩, true, wrap64 ((getB r).1 : Int)⟩ ((getB bs).2.1 + (textOf (bs.drop (getB bs).2.1)).2.1 + 1 + (getB r).2.1) else
    if (textOf (r.drop (getB r).2.1)).2.2 = false then none else
    finE ⟨keyE ah (getB bs).1 (textOf (bs.drop (getB bs).2.1)).1, bStr (textOf (r.drop (getB r).2.1)).1, false, wrap64 ((getB r).1 : Int)⟩ ((getB bs).2.1 + (textOf (bs.drop (getB bs).2.1)).2.1 + 1 + (getB r).2.1 + (textOf (r.drop (getB r).2.1)).2.1)
theorem comN_take : ∀ a b : List UInt8, a.take (comN a b) = b.take (comN a b)
  | [], b => by cases b <;> rfl
  | _ :: _, [] => rfl
  | a :: x, b :: y => by
    rw [comN]
    split
    · rename_i h
      rw [List.take_succ_cons, List.take_succ_cons, comN_take x y, h]
    · rfl
theorem keyE_com (ah k : ByteArray) : keyE ah (comN (strB ah) (strB k)) ((strB k).drop (comN (strB ah) (strB k))) = k := by
  unfold keyE
  rw [comN_take, List.take_append_drop]
  exact (str_mk k).symm
theorem bStr_strB (s : ByteArray) : bStr (strB s) = s := (str_mk s).symm
theorem strB_keyE (ah : ByteArray) (sh : Nat) (s : List UInt8) : strB (keyE ah sh s) = (strB ah).take sh ++ s := strB_bStr _
/-- What was pressed is read. -/
theorem entOf_press (ah : ByteArray) (e : E) (h : rightB e = true) (ha : ah.size ≤ 128) (more : List UInt8) : entOf ah (pressB ah e ++ more) = some (e, (pressB ah e).length) := by
  obtain ⟨h1, h2, qn, h3, h4, h5⟩ := right_parts h
  have hdel : e.del = true → e.value = ⟨#[]⟩ := by
    intro hd
    simp only [rightB, decide_eq_true_eq] at h
    exact (size_zero e.value).1 (h.2.2.2.1 hd)
  obtain ⟨k, v, d, q⟩ := e
  simp only at h1 h2 h3 hdel
  subst h3
  have hq : wrap64 (qn : Int) = qn := by unfold wrap64; omega
  have hcl := comN_le (strB ah) (strB k)
  rw [strB_length, strB_length] at hcl
  have hk := keyE_com ah k
  unfold pressB
  simp only
  generalize hc : comN (strB ah) (strB k) = c at hcl hk
  have g0 : ∀ m, getB (putB c ++ m) = (c, (putB c).length, true) := fun m => getB_putB c (by omega) m
  have g1 : ∀ m, getB (putB qn ++ m) = (qn, (putB qn).length, true) := fun m => getB_putB qn (by omega) m
  have t1 : ∀ m, textOf (textB ((strB k).drop c) ++ m) = ((strB k).drop c, (textB ((strB k).drop c)).length, true) := fun m => textOf_textB _ m (by rw [List.length_drop, strB_length]; omega)
  have t2 : ∀ m, textOf (textB (strB v) ++ m) = (strB v, (textB (strB v)).length, true) := fun m => textOf_textB _ m (by rw [strB_length]; omega)
  have d0 : ∀ m, (putB c ++ m).drop (putB c).length = m := fun m => List.drop_left
  have d1 : ∀ m, (putB qn ++ m).drop (putB qn).length = m := fun m => List.drop_left
  have d2 : ∀ m, (putB c ++ (textB ((strB k).drop c) ++ m)).drop ((putB c).length + (textB ((strB k).drop c)).length) = m := fun m => by
    rw [← List.append_assoc, ← List.length_append]; exact List.drop_left
  have e0 : (⟨k, v, d, (qn : Int)⟩ : E).seq.toNat = qn := rfl
  cases d with
  | true =>
    simp only [if_true, List.append_nil, List.cons_append, List.append_assoc, Int.toNat_natCast]
    unfold entOf
    rw [g0]
    simp only [d0, t1, hk, hc]
    rw [if_neg (by simp), if_neg (by omega), if_neg (by simp), if_neg (by simp), d2]
    simp only
    rw [if_neg (by decide), g1]
    simp only
    rw [if_neg (by simp), if_pos (by decide), hq, finE]
    rw [hdel rfl] at h
    rw [if_pos h, hdel rfl]
    simp only [List.length_cons, List.length_append]
    congr 2
    omega
  | false =>
    simp only [Bool.false_eq_true, if_false, List.cons_append, List.append_assoc, Int.toNat_natCast]
    unfold entOf
    rw [g0]
    simp only [d0, t1, hk, hc]
    rw [if_neg (by simp), if_neg (by omega), if_neg (by simp), if_neg (by simp), d2]
    simp only
    rw [if_neg (by decide), g1]
    simp only
    rw [if_neg (by simp), if_neg (by decide), d1, t2]
    simp only
    rw [if_neg (by simp), hq, finE, bStr_strB, if_pos h]
    simp only [List.length_cons, List.length_append]
    congr 2
    omega
theorem finE_some {e x : E} {n m : Nat} (h : finE e n = some (x, m)) : rightB e = true ∧ x = e ∧ m = n := by
  unfold finE at h
  split at h
  · rename_i hr; cases h; exact ⟨hr, rfl, rfl⟩
  · cases h
theorem add5 (n m k : Nat) : n + m + 1 + k = n + (m + (1 + k)) := by omega
theorem add6 (n m k j : Nat) : n + m + 1 + k + j = n + (m + (1 + (k + j))) := by omega
theorem len5 {n m k L : Nat} (h1 : 1 ≤ n) (h : n + m + 1 + k ≤ L) : 1 ≤ n + m + 1 + k ∧ n + m + 1 + k ≤ L := by omega
/-- What is read was pressed so. -/
theorem entOf_once {ah : ByteArray} {bs : List UInt8} {x : E} {l : Nat} (h : entOf ah bs = some (x, l)) : rightB x = true ∧ 1 ≤ l ∧ l ≤ bs.length ∧ bs.take l = pressB ah x := by
  unfold entOf at h
  obtain ⟨⟨sh, n, ok⟩, hg⟩ : ∃ y, getB bs = y := ⟨_, rfl⟩
  rw [hg] at h
  simp only at h
  split at h
  · cases h
  rename_i hok
  have hok : ok = true := by simpa using hok
  subst hok
  obtain ⟨g1, g2, g3, g4, -⟩ := getB_once bs sh n hg
  split at h
  · cases h
  rename_i hsh
  obtain ⟨⟨s, m, ok1⟩, ht⟩ : ∃ y, textOf (bs.drop n) = y := ⟨_, rfl⟩
  rw [ht] at h
  simp only at h
  split at h
  · cases h
  rename_i hok1
  have hok1 : ok1 = true := by simpa using hok1
  subst hok1
  obtain ⟨t1, t2, t3, t4⟩ := textOf_once _ _ _ ht
  rw [List.length_drop] at t2
  split at h
  · cases h
  rename_i hcom
  have hcom : comN (strB ah) (strB (keyE ah sh s)) = sh := by
    rw [ne_eq, Decidable.not_not] at hcom; exact hcom.symm
  have hkd : (strB (keyE ah sh s)).drop sh = s := by
    rw [strB_keyE]
    have hl : ((strB ah).take sh).length = sh := by rw [List.length_take, strB_length]; omega
    exact List.drop_left' hl
  split at h
  · cases h
  rename_i t r hdr
  have hrl : r.length + 1 = bs.length - (n + m) := by
    have := congrArg List.length hdr
    rw [List.length_drop, List.length_cons] at this
    exact this.symm
  split at h
  · cases h
  rename_i ht1
  obtain ⟨⟨q, k, ok2⟩, hq⟩ : ∃ y, getB r = y := ⟨_, rfl⟩
  rw [hq] at h
  simp only at h
  split at h
  · cases h
  rename_i hok2
  have hok2 : ok2 = true := by simpa using hok2
  subst hok2
  obtain ⟨q1, q2, q3, q4, -⟩ := getB_once r q k hq
  have htake : ∀ j, bs.take (n + (m + (1 + j))) = putB sh ++ (textB s ++ (t :: r.take j)) := by
    intro j
    rw [take_add, g4, take_add, t3, List.drop_drop, hdr, Nat.add_comm 1 j, List.take_succ_cons]
  split at h
  · rename_i ht2
    obtain ⟨hr, rfl, rfl⟩ := finE_some h
    have hR := hr
    simp only [rightB, decide_eq_true_eq] at hR
    obtain ⟨w1, w2⟩ := wrap64_right q1 hR.2.2.2.2.1 hR.2.2.2.2.2
    have htt : t = 1 := UInt8.toNat_inj.1 ht2
    obtain ⟨l1, l2⟩ := len5 (m := m) (k := k) (L := bs.length) g2 (by clear h hr hR htake; omega)
    refine ⟨hr, l1, l2, ?_⟩
    rw [add5, htake, q4, pressB]
    simp only [hcom, hkd, if_true, w2, List.append_nil, List.append_assoc, htt]
  · rename_i ht2
    have ht0 : t = 0 := UInt8.toNat_inj.1 (num0 ht1 ht2)
    obtain ⟨⟨v, j, ok3⟩, hv⟩ : ∃ y, textOf (r.drop k) = y := ⟨_, rfl⟩
    rw [hv] at h
    simp only at h
    split at h
    · cases h
    rename_i hok3
    have hok3 : ok3 = true := by simpa using hok3
    subst hok3
    obtain ⟨v1, v2, v3, v4⟩ := textOf_once _ _ _ hv
    rw [List.length_drop] at v2
    obtain ⟨hr, rfl, rfl⟩ := finE_some h
    have hR := hr
    simp only [rightB, decide_eq_true_eq] at hR
    obtain ⟨w1, w2⟩ := wrap64_right q1 hR.2.2.2.2.1 hR.2.2.2.2.2
    have l0 : n + m + 1 + (k + j) ≤ bs.length := by clear h hr hR htake; omega
    obtain ⟨l1, l2⟩ := len5 (m := m) (k := k + j) (L := bs.length) g2 l0
    refine ⟨hr, by rw [← Nat.add_assoc] at l1; exact l1, by rw [← Nat.add_assoc] at l2; exact l2, ?_⟩
    rw [add6, htake, take_add, q4, v3, pressB]
    simp only [hcom, hkd, Bool.false_eq_true, if_false, w2, List.append_assoc, List.cons_append, ht0, strB_bStr]
/-! ### the entries of a block -/
theorem bodyB_ext (es fs : List E) : ∀ i, (∀ j, j < i → es[j]! = fs[j]!) → bodyB es i = bodyB fs i
  | 0, _ => rfl
  | i + 1, h => by
    rw [bodyB, bodyB, bodyB_ext es fs i (fun j hj => h j (by omega)), h i (by omega)]
    congr 2
    unfold aheadK
    split
    · rfl
    · rw [h (i - 1) (by omega)]
theorem placesB_ext (es fs : List E) : ∀ i, (∀ j, j < i → es[j]! = fs[j]!) → placesB es i = placesB fs i
  | 0, _ => rfl
  | i + 1, h => by
    rw [placesB, placesB, placesB_ext es fs i (fun j hj => h j (by omega)), bodyB_ext es fs i (fun j hj => h j (by omega))]
theorem get_app (l r : List E) (j : Nat) (h : j < l.length) : (l ++ r)[j]! = l[j]! := by
  rw [List.getElem!_eq_getElem?_getD, List.getElem!_eq_getElem?_getD, List.getElem?_append_left h]
theorem get_app_at (l r : List E) (e : E) : (l ++ e :: r)[l.length]! = e := by
  rw [List.getElem!_eq_getElem?_getD, List.getElem?_append_right (Nat.le_refl _)]; simp
theorem aheadK_app (l r : List E) : aheadK (l ++ r) l.length = aheadK l l.length := by
  unfold aheadK
  split
  · rfl
  · rename_i h
    rw [get_app _ _ _ (by cases l with | nil => exact absurd rfl h | cons a x => simp)]
theorem bodyB_app (l r : List E) : bodyB (l ++ r) l.length = bodyB l l.length := bodyB_ext _ _ _ (fun j hj => get_app l r j hj)
theorem placesB_app (l r : List E) : placesB (l ++ r) l.length = placesB l l.length := placesB_ext _ _ _ (fun j hj => get_app l r j hj)
theorem bodyB_snoc (l r : List E) (e : E) : bodyB (l ++ e :: r) (l.length + 1) = bodyB l l.length ++ pressB (aheadK l l.length) e := by
  rw [bodyB, bodyB_app, aheadK_app, get_app_at]
theorem bodyB_more (es : List E) (i : Nat) : ∀ k, ∃ more, bodyB es (i + k) = bodyB es i ++ more
  | 0 => ⟨[], by simp⟩
  | k + 1 => by
    obtain ⟨m, hm⟩ := bodyB_more es i k
    exact ⟨m ++ pressB (aheadK es (i + k)) es[i + k]!, by rw [← Nat.add_assoc, bodyB, hm, List.append_assoc]⟩
theorem pressB_pos (ah : ByteArray) (e : E) : 1 ≤ (pressB ah e).length := by
  unfold pressB
  have := putB_pos (comN (strB ah) (strB e.key))
  simp only [List.length_append, List.length_cons]
  omega
theorem aheadK_size {l : List E} (h : l.all rightB = true) (i : Nat) (hi : i ≤ l.length) : (aheadK l i).size ≤ 128 := by
  unfold aheadK
  split
  · simp [ByteArray.size]
  · have := take_right h (i - 1) (by omega)
    exact (right_parts this).1
/-- Where a reader of a block's entries stands. -/
structure ParInv (body : List UInt8) (l : List E) (at_ : Nat) : Prop where
  right : l.all rightB = true
  len : l.length ≤ 64
  le : at_ ≤ body.length
  pre : bodyB l l.length = body.take at_
  uniq : ∀ l0, fitB l0 = true → bodyB l0 l0.length = body → ∃ rest, l0 = l ++ rest
theorem fit_all {l : List E} (h : fitB l = true) : l.all rightB = true := by
  unfold fitB at h; simp only [Bool.and_eq_true] at h; exact h.1.2
theorem fit_len {l : List E} (h : fitB l = true) : 1 ≤ l.length ∧ l.length ≤ 64 := by
  unfold fitB at h; simp only [Bool.and_eq_true, decide_eq_true_eq] at h; exact h.1.1
theorem inv_nil (body : List UInt8) : ParInv body [] 0 := ⟨rfl, by simp, by omega, by simp [bodyB], fun l0 _ _ => ⟨l0, rfl⟩⟩
/-- Of a fit list that goes on so, what comes next is read. -/
theorem next_of (l rest : List E) (body : List UInt8) (hall : (l ++ rest).all rightB = true) (hb : bodyB (l ++ rest) (l ++ rest).length = body) (at_ : Nat) (hat : bodyB l l.length = body.take at_) (hlt : at_ < body.length) :
    ∃ e r, rest = e :: r ∧ entOf (aheadK l l.length) (body.drop at_) = some (e, (pressB (aheadK l l.length) e).length) := by
  have hl : (bodyB l l.length).length = at_ := by rw [hat, List.length_take]; omega
  cases rest with
  | nil =>
    exfalso
    rw [List.append_nil] at hb
    rw [hb] at hl
    omega
  | cons e r =>
    refine ⟨e, r, rfl, ?_⟩
    obtain ⟨more, hm⟩ := bodyB_more (l ++ e :: r) (l.length + 1) r.length
    rw [bodyB_snoc, show l.length + 1 + r.length = (l ++ e :: r).length by simp; omega, hb] at hm
    have hd : body.drop at_ = pressB (aheadK l l.length) e ++ more := by
      rw [hm, ← hl, List.append_assoc, List.drop_left]
    rw [hd]
    have hal : l.all rightB = true := by rw [List.all_append, Bool.and_eq_true] at hall; exact hall.1
    have hre : rightB e = true := by
      rw [List.all_append, Bool.and_eq_true, List.all_cons, Bool.and_eq_true] at hall; exact hall.2.1
    exact entOf_press _ _ hre (aheadK_size hal _ (Nat.le_refl _)) more
theorem inv_full {body : List UInt8} {l : List E} {at_ : Nat} (h : ParInv body l at_) (hlt : at_ < body.length) (h64 : ¬ l.length < 64) : ∀ l0, fitB l0 = true → bodyB l0 l0.length ≠ body := by
  intro l0 hf hb
  obtain ⟨rest, rfl⟩ := h.uniq l0 hf hb
  obtain ⟨e, r, rfl, -⟩ := next_of l rest body (fit_all hf) hb at_ h.pre hlt
  have := (fit_len hf).2
  simp at this
  omega
theorem inv_bad {body : List UInt8} {l : List E} {at_ : Nat} (h : ParInv body l at_) (hlt : at_ < body.length) (hn : entOf (aheadK l l.length) (body.drop at_) = none) : ∀ l0, fitB l0 = true → bodyB l0 l0.length ≠ body := by
  intro l0 hf hb
  obtain ⟨rest, rfl⟩ := h.uniq l0 hf hb
  obtain ⟨e, r, rfl, he⟩ := next_of l rest body (fit_all hf) hb at_ h.pre hlt
  rw [hn] at he
  cases he
theorem inv_step {body : List UInt8} {l : List E} {at_ : Nat} (h : ParInv body l at_) (hlt : at_ < body.length) (h64 : l.length < 64) {e : E} {n : Nat} (hn : entOf (aheadK l l.length) (body.drop at_) = some (e, n)) : ParInv body (l ++ [e]) (at_ + n) := by
  obtain ⟨h1, h2, h3, h4⟩ := entOf_once hn
  rw [List.length_drop] at h3
  refine ⟨?_, by simp; omega, by omega, ?_, ?_⟩
  · rw [List.all_append, h.right, List.all_cons, h1]; rfl
  · rw [List.length_append, List.length_singleton, bodyB_snoc, h.pre, take_add, h4]
  · intro l0 hf hb
    obtain ⟨rest, rfl⟩ := h.uniq l0 hf hb
    obtain ⟨e2, r, rfl, he⟩ := next_of l rest body (fit_all hf) hb at_ h.pre hlt
    rw [hn] at he
    cases he
    exact ⟨r, by simp⟩
/-- At the end of the body just one list is left. -/
theorem inv_end {body : List UInt8} {l : List E} {at_ : Nat} (h : ParInv body l at_) (he : ¬ at_ < body.length) : bodyB l l.length = body ∧ ∀ l0, fitB l0 = true → bodyB l0 l0.length = body → l0 = l := by
  have hb : bodyB l l.length = body := by rw [h.pre, List.take_of_length_le (by omega)]
  refine ⟨hb, fun l0 hf hb0 => ?_⟩
  obtain ⟨rest, rfl⟩ := h.uniq l0 hf hb0
  cases rest with
  | nil => simp
  | cons e r =>
    exfalso
    obtain ⟨more, hm⟩ := bodyB_more (l ++ e :: r) (l.length + 1) r.length
    rw [bodyB_snoc, show l.length + 1 + r.length = (l ++ e :: r).length by simp; omega, hb0, hb] at hm
    have h1 := congrArg List.length hm
    have h2 := pressB_pos (aheadK l l.length) e
    simp only [List.length_append] at h1
    omega
/-- The place of a block's foot. -/
def footN (bs : List UInt8) : Nat := (fixOf (bs.drop (bs.length - 4))).1
theorem fixB_len (v : Nat) : (fixB v).length = 4 := rfl
theorem foot_block {l : List E} {bs : List UInt8} (hf : fitB l = true) (hb : blockB l = bs) :
    4 ≤ bs.length ∧ (footN bs + 1) * 4 ≤ bs.length ∧ bodyB l l.length = bs.take (bs.length - (footN bs + 1) * 4) := by
  have hl := fit_len hf
  have hp := placesB_len l l.length
  have hlen : bs.length = (bodyB l l.length).length + ((placesB l l.length).length + 4) := by
    rw [← hb, blockB, List.length_append, List.length_append, fixB_len]
  have hdr : bs.drop (bs.length - 4) = fixB ((placesB l l.length).length / 4) := by
    rw [hlen, show (bodyB l l.length).length + ((placesB l l.length).length + 4) - 4 = (bodyB l l.length ++ placesB l l.length).length by rw [List.length_append]; omega, ← hb, blockB, ← List.append_assoc]
    exact List.drop_left
  have hn : footN bs = (placesB l l.length).length / 4 := by
    unfold footN
    rw [hdr]
    have := fixOf_fixB ((placesB l l.length).length / 4) (by omega) []
    rw [List.append_nil] at this
    rw [this]
  have hq : (footN bs + 1) * 4 = (placesB l l.length).length + 4 := by rw [hn, hp]; omega
  refine ⟨by omega, by omega, ?_⟩
  rw [hq, hlen, Nat.add_sub_cancel, ← hb, blockB]
  exact List.take_left.symm
/-- What the parser does behind the entries decides. -/
theorem par_end {bs : List UInt8} {l : List E} {at_ : Nat} (hle : (footN bs + 1) * 4 ≤ bs.length) (h : ParInv (bs.take (bs.length - (footN bs + 1) * 4)) l at_) (he : ¬ at_ < bs.length - (footN bs + 1) * 4) :
    (1 ≤ l.length ∧ sortedB l = true ∧ bs.drop (bs.length - (footN bs + 1) * 4) = placesB l l.length ++ fixB ((placesB l l.length).length / 4) → fitB l = true ∧ blockB l = bs) ∧
    (∀ l0, fitB l0 = true → blockB l0 = bs → l0 = l) := by
  have hbl : (bs.take (bs.length - (footN bs + 1) * 4)).length = bs.length - (footN bs + 1) * 4 := by rw [List.length_take]; omega
  obtain ⟨h1, h2⟩ := inv_end h (by rw [hbl]; exact he)
  refine ⟨fun ⟨a, b, c⟩ => ⟨?_, ?_⟩, fun l0 hf hb => h2 l0 hf (foot_block hf hb).2.2⟩
  · unfold fitB
    rw [h.right, b]
    simp only [Bool.and_true, decide_eq_true_eq]
    exact ⟨a, h.len⟩
  · rw [blockB, h1, ← c, List.take_append_drop]
end Go.Proofs.Yteemfhhhdhddhaa
