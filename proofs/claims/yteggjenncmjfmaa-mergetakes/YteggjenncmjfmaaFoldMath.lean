/-
  What a list of entries comes to: plain mathematics, no program.
-/
import Derived.Test.YteggjenncmjfmaaSortMath
namespace Go.Proofs.Yteggjenncmjfmaa
set_option linter.unusedSectionVars false
variable [Inhabited E]
/-- Of entries in the order of their keys: the last of each key. -/
def lasts : List E → List E
  | [] => []
  | [a] => [a]
  | a :: b :: r => if b.key = a.key then lasts (b :: r) else a :: lasts (b :: r)
theorem lasts_end (l : List E) (i : Nat) (h : i + 1 = l.length) : lasts (l.drop i) = [l[i]!] := by
  have hi : i < l.length := by omega
  rw [List.drop_eq_getElem_cons hi, List.drop_eq_nil_of_le (by omega : l.length ≤ i + 1), getElem!_pos l i hi]
  rfl
theorem lasts_keep (l : List E) (i : Nat) (h : i + 1 < l.length) (hk : l[i + 1]!.key ≠ l[i]!.key) : lasts (l.drop i) = l[i]! :: lasts (l.drop (i + 1)) := by
  have hi : i < l.length := by omega
  rw [getElem!_pos l i hi, getElem!_pos l (i + 1) h] at hk
  rw [List.drop_eq_getElem_cons hi, List.drop_eq_getElem_cons h, lasts, if_neg hk, getElem!_pos l i hi]
theorem lasts_skip (l : List E) (i : Nat) (h : i + 1 < l.length) (hk : l[i + 1]!.key = l[i]!.key) : lasts (l.drop i) = lasts (l.drop (i + 1)) := by
  have hi : i < l.length := by omega
  rw [getElem!_pos l i hi, getElem!_pos l (i + 1) h] at hk
  rw [List.drop_eq_getElem_cons hi, List.drop_eq_getElem_cons h, lasts, if_pos hk]
theorem lasts_len : ∀ l : List E, (lasts l).length ≤ l.length
  | [] => Nat.le_refl _
  | [a] => Nat.le_refl _
  | a :: b :: r => by
    have := lasts_len (b :: r)
    rw [lasts]
    split <;> simp at * <;> omega
/-! ### comparing texts -/
theorem cb_self : ∀ a : List UInt8, Lib.compareBytes a a = 0
  | [] => rfl
  | x :: a => by rw [Lib.compareBytes, if_neg (UInt8.lt_irrefl x), if_neg (UInt8.lt_irrefl x)]; exact cb_self a
theorem cb_eq : ∀ a b : List UInt8, Lib.compareBytes a b = 0 → a = b
  | [], [], _ => rfl
  | [], _ :: _, h => by simp [Lib.compareBytes] at h
  | _ :: _, [], h => by simp [Lib.compareBytes] at h
  | x :: a, y :: b, h => by
    rw [Lib.compareBytes] at h
    split at h
    · omega
    · split at h
      · omega
      · rename_i h1 h2
        have := cb_eq a b h
        have hxy : x = y := UInt8.le_antisymm (UInt8.not_lt.1 h2) (UInt8.not_lt.1 h1)
        rw [this, hxy]
theorem cb_anti : ∀ a b : List UInt8, Lib.compareBytes a b < 0 ↔ 0 < Lib.compareBytes b a
  | [], [] => by simp [Lib.compareBytes]
  | [], _ :: _ => by simp [Lib.compareBytes]
  | _ :: _, [] => by simp [Lib.compareBytes]
  | x :: a, y :: b => by
    have ih := cb_anti a b
    rw [Lib.compareBytes, Lib.compareBytes]
    by_cases h1 : x < y
    · rw [if_pos h1, if_neg (UInt8.not_lt.2 (UInt8.le_of_lt h1)), if_pos h1]; omega
    · by_cases h2 : y < x
      · rw [if_neg h1, if_pos h2, if_pos h2]; omega
      · rw [if_neg h1, if_neg h2, if_neg h2, if_neg h1]; exact ih
theorem cb_trans : ∀ a b c : List UInt8, Lib.compareBytes a b ≤ 0 → Lib.compareBytes b c ≤ 0 → Lib.compareBytes a c ≤ 0
  | [], _, [], _, _ => by simp [Lib.compareBytes]
  | [], _, _ :: _, _, _ => by simp [Lib.compareBytes]
  | _ :: _, [], _, h, _ => by simp [Lib.compareBytes] at h
  | _ :: _, _ :: _, [], _, h => by simp [Lib.compareBytes] at h
  | x :: a, y :: b, z :: c, h1, h2 => by
    have ih := cb_trans a b c
    rw [Lib.compareBytes] at h1 h2 ⊢
    by_cases p : x < y
    · by_cases q : y < z
      · rw [if_pos (UInt8.lt_trans p q)]; omega
      · rw [if_neg q] at h2
        by_cases q2 : z < y
        · rw [if_pos q2] at h2; omega
        · have : y = z := UInt8.le_antisymm (UInt8.not_lt.1 q2) (UInt8.not_lt.1 q)
          subst this
          rw [if_pos p]; omega
    · rw [if_neg p] at h1
      by_cases p2 : y < x
      · rw [if_pos p2] at h1; omega
      · rw [if_neg p2] at h1
        have : x = y := UInt8.le_antisymm (UInt8.not_lt.1 p2) (UInt8.not_lt.1 p)
        subst this
        by_cases q : x < z
        · rw [if_pos q]; omega
        · rw [if_neg q] at h2 ⊢
          by_cases q2 : z < x
          · rw [if_pos q2] at h2; omega
          · rw [if_neg q2] at h2 ⊢
            exact ih h1 h2
theorem less_cb : ∀ a b : List UInt8, Op.bytesLess a b = decide (Lib.compareBytes a b < 0)
  | [], [] => rfl
  | [], _ :: _ => rfl
  | _ :: _, [] => rfl
  | x :: a, y :: b => by
    have ih := less_cb a b
    rw [Op.bytesLess, Lib.compareBytes]
    by_cases h1 : x < y
    · simp [h1]
    · by_cases h2 : y < x
      · have : x ≠ y := fun e => by subst e; exact UInt8.lt_irrefl x h2
        simp [h1, h2, this]
      · have : x = y := UInt8.le_antisymm (UInt8.not_lt.1 h2) (UInt8.not_lt.1 h1)
        subst this
        simp [UInt8.lt_irrefl, ih]
theorem cmpS_ord : Ord3 cmpS := ⟨fun _ _ => cb_anti _ _, fun _ _ _ => cb_trans _ _ _⟩
theorem cmpS_eq {a b : ByteArray} : cmpS a b = 0 ↔ a = b := by
  constructor
  · intro h
    have := cb_eq _ _ h
    exact ByteArray.ext (Array.toList_inj.1 this)
  · intro h; subst h; exact cb_self _
theorem less_cmpS (a b : ByteArray) : Op.bytesLess a.toList b.toList = decide (cmpS a b < 0) := by
  rw [ByteArray.toList_eq, ByteArray.toList_eq]; exact less_cb _ _
theorem eq_cmpS (a b : ByteArray) : (a.toList == b.toList) = decide (a = b) := by
  rw [ByteArray.toList_eq, ByteArray.toList_eq]
  by_cases h : a = b
  · subst h; simp
  · have : ¬ a.data = b.data := fun e => h (ByteArray.ext e)
    simp [h, this]
theorem cmpI_ord : Ord3 cmpI := ⟨fun a b => by unfold cmpI; split <;> split <;> (try split) <;> (try split) <;> omega, fun a b c => by unfold cmpI; split <;> split <;> (try split) <;> (try split) <;> (try split) <;> (try split) <;> omega⟩
theorem cmpI_le (a b : Int) : cmpI a b ≤ 0 ↔ a ≤ b := by unfold cmpI; split <;> (try split) <;> omega
theorem cmpI_zero (a b : Int) : cmpI a b = 0 ↔ a = b := by unfold cmpI; split <;> (try split) <;> omega
theorem cmpE_ord : Ord3 cmpE := by
  have hs := cmpS_ord
  have hi := cmpI_ord
  refine ⟨fun a b => ?_, fun a b c h1 h2 => ?_⟩
  · unfold cmpE
    have z := hs.zero a.key b.key
    by_cases h : cmpS a.key b.key = 0
    · rw [if_neg (by omega), if_neg (by omega)]; exact hi.anti _ _
    · rw [if_pos h, if_pos (by omega)]; exact hs.anti _ _
  · unfold cmpE at h1 h2 ⊢
    by_cases k1 : cmpS a.key b.key = 0
    · have e1 := cmpS_eq.1 k1
      rw [if_neg (by omega)] at h1
      rw [e1]
      by_cases k2 : cmpS b.key c.key = 0
      · rw [if_neg (by omega)] at h2 ⊢; exact hi.trans _ _ _ h1 h2
      · rw [if_pos k2] at h2 ⊢; exact h2
    · rw [if_pos k1] at h1
      have l1 : cmpS a.key b.key < 0 := by omega
      by_cases k2 : cmpS b.key c.key = 0
      · have e2 := cmpS_eq.1 k2
        rw [← e2, if_pos k1]; exact h1
      · rw [if_pos k2] at h2
        have := hs.ltle l1 h2
        rw [if_pos (by omega)]; omega
theorem cmpE_key {a b : E} (h : cmpE a b ≤ 0) : cmpS a.key b.key ≤ 0 := by
  unfold cmpE at h
  by_cases k1 : cmpS a.key b.key = 0
  · omega
  · rw [if_pos k1] at h; exact h
theorem cmpE_seq {a b : E} (h : cmpE a b ≤ 0) (hk : a.key = b.key) : a.seq ≤ b.seq := by
  unfold cmpE at h
  rw [if_neg (by rw [hk]; simpa using cmpS_ord.self b.key), cmpI_le] at h
  exact h
theorem cls_cmpE (c x : E) : cls cmpE c x = (decide (x.key = c.key) && decide (x.seq = c.seq)) := by
  unfold cls cmpE
  by_cases k1 : cmpS c.key x.key = 0
  · have e1 := cmpS_eq.1 k1
    rw [if_neg (by omega)]
    by_cases q : c.seq = x.seq
    · have h0 := (cmpI_zero c.seq x.seq).2 q
      rw [h0]
      simp [e1, q]
    · have h2 : cmpI c.seq x.seq ≠ 0 := fun h => q ((cmpI_zero _ _).1 h)
      have h3 : ¬ x.seq = c.seq := fun h => q h.symm
      simp [h2, h3]
  · have h2 : ¬ x.key = c.key := fun h => k1 (cmpS_eq.2 h.symm)
    rw [if_pos k1]
    simp [k1, h2]
/-! ### lists sorted by their keys -/
/-- Each key above the one ahead. -/
def Ks (l : List E) : Prop := l.Pairwise fun a b => cmpS a.key b.key < 0
/-- What a list has of a key. -/
def lk (k : ByteArray) (l : List E) : Option E := l.find? fun e => decide (e.key = k)
theorem lk_nil (k : ByteArray) : lk k [] = none := rfl
theorem lk_cons (k : ByteArray) (e : E) (l : List E) : lk k (e :: l) = if e.key = k then some e else lk k l := by
  unfold lk; rw [List.find?_cons]; by_cases h : e.key = k <;> simp [h]
theorem lk_none {k : ByteArray} {l : List E} (h : ∀ x ∈ l, x.key ≠ k) : lk k l = none := by
  unfold lk; rw [List.find?_eq_none]; intro x hx; simpa using h x hx
theorem lk_below {k : ByteArray} {e : E} {l : List E} (h : Ks (e :: l)) (hk : cmpS k e.key < 0) : lk k (e :: l) = none := by
  refine lk_none fun x hx => ?_
  rcases List.mem_cons.1 hx with rfl | hx
  · intro e1; rw [e1] at hk; have := cmpS_ord.self k; omega
  · have h1 := (List.pairwise_cons.1 h).1 x hx
    have h2 := cmpS_ord.ltle hk (by omega : cmpS e.key x.key ≤ 0)
    intro e1; rw [e1] at h2; have := cmpS_ord.self k; omega
theorem lk_head {e : E} {l : List E} (h : Ks (e :: l)) : lk e.key l = none := by
  refine lk_none fun x hx e1 => ?_
  have h1 := (List.pairwise_cons.1 h).1 x hx
  rw [e1] at h1; have := cmpS_ord.self e.key; omega
theorem lk_mem {k : ByteArray} {l : List E} {x : E} (h : lk k l = some x) : x ∈ l ∧ x.key = k := by
  unfold lk at h
  exact ⟨List.mem_of_find?_eq_some h, by simpa using List.find?_some h⟩
theorem lk_of_mem {l : List E} (h : Ks l) {x : E} (hx : x ∈ l) : lk x.key l = some x := by
  induction l with
  | nil => cases hx
  | cons e r ih =>
    rw [lk_cons]
    have hr := (List.pairwise_cons.1 h).2
    rcases List.mem_cons.1 hx with rfl | hx
    · rw [if_pos rfl]
    · have h1 := (List.pairwise_cons.1 h).1 x hx
      rw [if_neg (fun e1 => by rw [e1] at h1; have := cmpS_ord.self x.key; omega)]
      exact ih hr hx
theorem ks_ext : ∀ {a b : List E}, Ks a → Ks b → (∀ k, lk k a = lk k b) → a = b
  | [], [], _, _, _ => rfl
  | [], y :: b, _, _, h => by have := h y.key; rw [lk_nil, lk_cons, if_pos rfl] at this; cases this
  | x :: a, [], _, _, h => by have := h x.key; rw [lk_nil, lk_cons, if_pos rfl] at this; cases this
  | x :: a, y :: b, ha, hb, h => by
    have hk : cmpS x.key y.key = 0 := by
      have h1 := h x.key
      have h2 := h y.key
      by_cases p : cmpS x.key y.key < 0
      · rw [lk_cons, if_pos rfl, lk_below hb p] at h1; cases h1
      · by_cases q : cmpS y.key x.key < 0
        · rw [lk_below ha q, lk_cons, if_pos rfl] at h2; cases h2
        · have := cmpS_ord.anti y.key x.key; omega
    have hk := cmpS_eq.1 hk
    have h1 := h x.key
    rw [lk_cons, if_pos rfl, lk_cons, if_pos hk.symm] at h1
    cases h1
    congr 1
    refine ks_ext (List.pairwise_cons.1 ha).2 (List.pairwise_cons.1 hb).2 fun k => ?_
    have h2 := h k
    rw [lk_cons, lk_cons] at h2
    by_cases e1 : x.key = k
    · subst e1; rw [lk_head ha, lk_head hb]
    · rwa [if_neg e1, if_neg e1] at h2
/-! ### the fold -/
/-- An entry put into its place. -/
def insS : List E → E → List E
  | [], e => [e]
  | x :: r, e => if cmpS x.key e.key < 0 then x :: insS r e else if x.key = e.key then (if x.seq ≤ e.seq then e :: r else x :: r) else e :: x :: r
def foldS (l : List E) : List E := l.foldl insS []
/-- Of two entries of a key the later one. -/
def lat (o : Option E) (e : E) : Option E :=
  match o with
  | none => some e
  | some b => if b.seq ≤ e.seq then some e else some b
theorem lk_insS (k : ByteArray) (e : E) : ∀ {l : List E}, Ks l → lk k (insS l e) = if e.key = k then lat (lk k l) e else lk k l
  | [], _ => by rw [insS, lk_cons, lk_nil]; rfl
  | x :: r, h => by
    have hr := (List.pairwise_cons.1 h).2
    rw [insS]
    by_cases p : cmpS x.key e.key < 0
    · rw [if_pos p, lk_cons, lk_insS k e hr, lk_cons]
      by_cases e1 : x.key = k
      · have : ¬ e.key = k := fun e2 => by rw [e1, e2] at p; have := cmpS_ord.self k; omega
        rw [if_pos e1, if_pos e1, if_neg this]
      · rw [if_neg e1, if_neg e1]
    · rw [if_neg p]
      by_cases q : x.key = e.key
      · rw [if_pos q]
        by_cases s : x.seq ≤ e.seq
        · rw [if_pos s, lk_cons, lk_cons]
          by_cases e1 : e.key = k
          · rw [if_pos e1, if_pos e1, if_pos (q.trans e1)]; simp [lat, s]
          · rw [if_neg e1, if_neg e1, if_neg (fun e2 => e1 (q.symm.trans e2))]
        · rw [if_neg s, lk_cons]
          by_cases e1 : e.key = k
          · rw [if_pos e1, if_pos (q.trans e1)]; simp [lat, s]
          · rw [if_neg e1]
      · rw [if_neg q, lk_cons]
        by_cases e1 : e.key = k
        · have p2 : cmpS e.key x.key < 0 := by
            have h1 := cmpS_ord.anti e.key x.key
            have h2 : cmpS x.key e.key ≠ 0 := fun h => q (cmpS_eq.1 h)
            omega
          rw [if_pos e1, if_pos e1, ← e1, lk_below h p2]; rfl
        · rw [if_neg e1, if_neg e1]
theorem insS_mem {l : List E} {e x : E} (h : x ∈ insS l e) : x = e ∨ x ∈ l := by
  induction l with
  | nil => simp [insS] at h; exact .inl h
  | cons y r ih =>
    rw [insS] at h
    split at h
    · rcases List.mem_cons.1 h with rfl | h
      · exact .inr (List.mem_cons_self ..)
      · rcases ih h with h | h
        · exact .inl h
        · exact .inr (List.mem_cons_of_mem _ h)
    · split at h
      · split at h
        · rcases List.mem_cons.1 h with rfl | h
          · exact .inl rfl
          · exact .inr (List.mem_cons_of_mem _ h)
        · exact .inr h
      · rcases List.mem_cons.1 h with rfl | h
        · exact .inl rfl
        · exact .inr h
theorem ks_insS (e : E) : ∀ {l : List E}, Ks l → Ks (insS l e)
  | [], _ => List.pairwise_singleton _ _
  | x :: r, h => by
    have hr := List.pairwise_cons.1 h
    rw [insS]
    by_cases p : cmpS x.key e.key < 0
    · rw [if_pos p]
      refine List.pairwise_cons.2 ⟨fun y hy => ?_, ks_insS e hr.2⟩
      rcases insS_mem hy with rfl | hy
      · exact p
      · exact hr.1 y hy
    · rw [if_neg p]
      by_cases q : x.key = e.key
      · rw [if_pos q]
        by_cases s : x.seq ≤ e.seq
        · rw [if_pos s]
          exact List.pairwise_cons.2 ⟨fun y hy => by rw [← q]; exact hr.1 y hy, hr.2⟩
        · rw [if_neg s]; exact h
      · rw [if_neg q]
        have p2 : cmpS e.key x.key < 0 := by
          have h1 := cmpS_ord.anti e.key x.key
          have h2 : cmpS x.key e.key ≠ 0 := fun h => q (cmpS_eq.1 h)
          omega
        refine List.pairwise_cons.2 ⟨fun y hy => ?_, h⟩
        rcases List.mem_cons.1 hy with rfl | hy
        · exact p2
        · exact cmpS_ord.ltle p2 (by have := hr.1 y hy; omega)
theorem ks_foldl : ∀ (l a : List E), Ks a → Ks (l.foldl insS a)
  | [], _, h => h
  | e :: l, _, h => ks_foldl l _ (ks_insS e h)
theorem ks_foldS (l : List E) : Ks (foldS l) := ks_foldl l [] List.Pairwise.nil
/-- What of a key is the last. -/
def best (k : ByteArray) (o : Option E) (l : List E) : Option E := l.foldl (fun o e => if e.key = k then lat o e else o) o
theorem lk_foldl (k : ByteArray) : ∀ (l a : List E), Ks a → lk k (l.foldl insS a) = best k (lk k a) l
  | [], _, _ => rfl
  | e :: l, a, h => by
    show lk k (l.foldl insS (insS a e)) = best k (if e.key = k then lat (lk k a) e else lk k a) l
    rw [lk_foldl k l _ (ks_insS e h), lk_insS k e h]
theorem lk_foldS (k : ByteArray) (l : List E) : lk k (foldS l) = best k none l := lk_foldl k l [] List.Pairwise.nil
/-! ### the last of each key in a sorted list -/
theorem lasts_mem : ∀ {l : List E} {x : E}, x ∈ lasts l → x ∈ l
  | [], _, h => h
  | [_], _, h => h
  | a :: b :: r, x, h => by
    rw [lasts] at h
    split at h
    · exact List.mem_cons_of_mem _ (lasts_mem h)
    · rcases List.mem_cons.1 h with rfl | h
      · exact List.mem_cons_self ..
      · exact List.mem_cons_of_mem _ (lasts_mem h)
def Kle (l : List E) : Prop := l.Pairwise fun a b => cmpS a.key b.key ≤ 0
theorem ks_lasts : ∀ {l : List E}, Kle l → Ks (lasts l)
  | [], _ => List.Pairwise.nil
  | [_], _ => List.pairwise_singleton _ _
  | a :: b :: r, h => by
    have hr := List.pairwise_cons.1 h
    have ih := ks_lasts hr.2
    rw [lasts]
    by_cases p : b.key = a.key
    · rw [if_pos p]; exact ih
    · rw [if_neg p]
      refine List.pairwise_cons.2 ⟨fun y hy => ?_, ih⟩
      have h1 := hr.1 b (List.mem_cons_self ..)
      have h2 : cmpS a.key b.key < 0 := by
        have : cmpS a.key b.key ≠ 0 := fun h => p (cmpS_eq.1 h).symm
        omega
      rcases List.mem_cons.1 (lasts_mem hy) with rfl | h3
      · exact h2
      · exact cmpS_ord.ltle h2 ((List.pairwise_cons.1 hr.2).1 y h3)
def ofKey (k : ByteArray) (l : List E) : List E := l.filter fun e => decide (e.key = k)
theorem ofKey_cons (k : ByteArray) (e : E) (l : List E) : ofKey k (e :: l) = if e.key = k then e :: ofKey k l else ofKey k l := by
  unfold ofKey; rw [List.filter_cons]; by_cases h : e.key = k <;> simp [h]
theorem ofKey_none {k : ByteArray} {l : List E} (h : ∀ x ∈ l, x.key ≠ k) : ofKey k l = [] := by
  unfold ofKey; rw [List.filter_eq_nil_iff]; intro x hx; simpa using h x hx
theorem lk_lasts (k : ByteArray) : ∀ {l : List E}, Kle l → lk k (lasts l) = (ofKey k l).getLast?
  | [], _ => rfl
  | [_], _ => by rw [lasts, lk_cons, ofKey_cons, lk_nil]; split <;> rfl
  | a :: b :: r, h => by
    have hr := List.pairwise_cons.1 h
    have ih := lk_lasts k hr.2
    rw [lasts]
    by_cases p : b.key = a.key
    · rw [if_pos p, ih, ofKey_cons k a]
      by_cases e1 : a.key = k
      · rw [if_pos e1, ofKey_cons, if_pos (p.trans e1), List.getLast?_cons_cons]
      · rw [if_neg e1]
    · rw [if_neg p, lk_cons, ih, ofKey_cons k a]
      by_cases e1 : a.key = k
      · rw [if_pos e1, if_pos e1]
        have h1 := hr.1 b (List.mem_cons_self ..)
        have h2 : cmpS a.key b.key < 0 := by
          have : cmpS a.key b.key ≠ 0 := fun h => p (cmpS_eq.1 h).symm
          omega
        rw [ofKey_none]
        · rfl
        · intro x hx e2
          have h3 : cmpS a.key x.key < 0 := by
            rcases List.mem_cons.1 hx with rfl | h3
            · exact h2
            · exact cmpS_ord.ltle h2 ((List.pairwise_cons.1 hr.2).1 x h3)
          rw [e1, e2] at h3
          have := cmpS_ord.self k; omega
      · rw [if_neg e1, if_neg e1]
theorem best_ofKey (k : ByteArray) : ∀ (l : List E) (o : Option E), best k o l = (ofKey k l).foldl lat o
  | [], _ => rfl
  | e :: l, o => by
    rw [ofKey_cons]
    show best k (if e.key = k then lat o e else o) l = _
    rw [best_ofKey k l]
    by_cases h : e.key = k
    · rw [if_pos h, if_pos h]; rfl
    · rw [if_neg h, if_neg h]
theorem snoc_rec {α : Type} {p : List α → Prop} (h0 : p []) (hs : ∀ l a, p l → p (l ++ [a])) (l : List α) : p l := by
  have h : ∀ r : List α, p r.reverse := by
    intro r
    induction r with
    | nil => exact h0
    | cons a r ih => rw [List.reverse_cons]; exact hs _ _ ih
  have := h l.reverse
  rwa [List.reverse_reverse] at this
/-- The later one of all: it is the last of those with the greatest number. -/
theorem lat_spec : ∀ (l : List E) (x : E), l.foldl lat none = some x → (∀ y ∈ l, y.seq ≤ x.seq) ∧ (l.filter fun e => decide (e.seq = x.seq)).getLast? = some x ∧ x ∈ l := by
  intro l
  induction l using snoc_rec with
  | h0 => intro x h; cases h
  | hs l e ih =>
    intro x h
    rw [List.foldl_append] at h
    change lat (l.foldl lat none) e = some x at h
    cases hl : l.foldl lat none with
    | none =>
      rw [hl] at h
      cases h
      have : l = [] := by
        cases l with
        | nil => rfl
        | cons y r =>
          exfalso
          have : ∀ (r : List E) (b : E), ∃ z, r.foldl lat (some b) = some z := by
            intro r
            induction r with
            | nil => intro b; exact ⟨b, rfl⟩
            | cons c r ih2 => intro b; simp only [List.foldl_cons, lat]; split <;> exact ih2 _
          obtain ⟨z, hz⟩ := this r y
          change r.foldl lat (some y) = none at hl
          rw [hz] at hl; cases hl
      subst this
      simp
    | some b =>
      rw [hl] at h
      obtain ⟨h1, h2, h3⟩ := ih b hl
      simp only [lat] at h
      by_cases s : b.seq ≤ e.seq
      · rw [if_pos s] at h
        cases h
        refine ⟨fun y hy => ?_, ?_, by simp⟩
        · rcases List.mem_append.1 hy with hy | hy
          · have := h1 y hy; omega
          · simp at hy; subst hy; omega
        · rw [List.filter_append]; simp
      · rw [if_neg s] at h
        cases h
        refine ⟨fun y hy => ?_, ?_, by simp [h3]⟩
        · rcases List.mem_append.1 hy with hy | hy
          · exact h1 y hy
          · simp at hy; subst hy; omega
        · rw [List.filter_append]
          have : ¬ e.seq = x.seq := by omega
          simp [this, h2]
theorem lat_some : ∀ (l : List E), l ≠ [] → ∃ x, l.foldl lat none = some x := by
  intro l
  induction l using snoc_rec with
  | h0 => intro h; exact absurd rfl h
  | hs l e ih =>
    intro _
    rw [List.foldl_append]
    show ∃ x, lat (l.foldl lat none) e = some x
    cases l.foldl lat none with
    | none => exact ⟨e, rfl⟩
    | some b => simp only [lat]; split <;> exact ⟨_, rfl⟩
theorem getLast_max : ∀ (l : List E) (z : E), l.Pairwise (fun a b => a.seq ≤ b.seq) → l.getLast? = some z → (∀ y ∈ l, y.seq ≤ z.seq) ∧ (l.filter fun e => decide (e.seq = z.seq)).getLast? = some z := by
  intro l z hp hl
  obtain ⟨l', rfl⟩ : ∃ l', l = l' ++ [z] := by
    rw [List.getLast?_eq_some_iff] at hl; exact hl
  refine ⟨fun y hy => ?_, ?_⟩
  · rcases List.mem_append.1 hy with hy | hy
    · exact (List.pairwise_append.1 hp).2.2 y hy z (by simp)
    · simp at hy; subst hy; omega
  · rw [List.filter_append]; simp
/-- A stable sort's last entries are the fold. -/
theorem lasts_foldS {l S : List E} (h : Stab cmpE l S) : lasts S = foldS l := by
  have hK : Kle S := h.srt.imp fun hab => cmpE_key hab
  refine ks_ext (ks_lasts hK) (ks_foldS l) fun k => ?_
  rw [lk_lasts k hK, lk_foldS, best_ofKey]
  have hperm : (ofKey k S).Perm (ofKey k l) := h.perm.filter _
  by_cases hn : ofKey k l = []
  · have : ofKey k S = [] := by rw [hn] at hperm; exact hperm.eq_nil
    rw [hn, this]; rfl
  · obtain ⟨x, hx⟩ := lat_some _ hn
    obtain ⟨h1, h2, h3⟩ := lat_spec _ x hx
    have hn2 : ofKey k S ≠ [] := fun e => hn (by rw [e] at hperm; exact hperm.symm.eq_nil)
    obtain ⟨z, hz⟩ : ∃ z, (ofKey k S).getLast? = some z := by
      cases hh : (ofKey k S).getLast? with
      | none => exact absurd (List.getLast?_eq_none_iff.1 hh) hn2
      | some z => exact ⟨z, rfl⟩
    have hsort : (ofKey k S).Pairwise fun a b => a.seq ≤ b.seq := by
      have hp : (ofKey k S).Pairwise fun a b => cmpE a b ≤ 0 := h.srt.sublist List.filter_sublist
      refine (List.Pairwise.imp_of_mem ?_ hp)
      intro a b ha hb hab
      refine cmpE_seq hab ?_
      have ha := (List.mem_filter.1 ha).2
      have hb := (List.mem_filter.1 hb).2
      simp at ha hb
      rw [ha, hb]
    obtain ⟨g1, g2⟩ := getLast_max _ z hsort hz
    have hzm : z ∈ ofKey k S := List.mem_of_getLast? hz
    have hseq : z.seq = x.seq := by
      have a1 := h1 z (hperm.mem_iff.1 hzm)
      have a2 := g1 x (hperm.mem_iff.2 h3)
      omega
    have hkeyx : x.key = k := by simpa using (List.mem_filter.1 h3).2
    have hc := h.keep x
    have hcls : ∀ L : List E, L.filter (cls cmpE x) = (ofKey k L).filter fun e => decide (e.seq = x.seq) := by
      intro L
      unfold ofKey
      rw [List.filter_filter]
      congr 1
      funext e
      rw [cls_cmpE, hkeyx]
      exact Bool.and_comm _ _
    rw [hcls, hcls] at hc
    rw [hseq, hc, h2] at g2
    rw [hx, hz, g2]
end Go.Proofs.Yteggjenncmjfmaa
