/-
  Many lists made one, by heads: plain mathematics, no program.
-/
import Derived.Test.YteggjenncmjfmaaMgH
namespace Go.Proofs.Yteggjenncmjfmaa
set_option linter.unusedSectionVars false
set_option linter.unusedVariables false
variable [Inhabited E]
def zE : E := ⟨ByteArray.empty, ByteArray.empty, false, 0⟩
def hE : List E → E
  | [] => zE
  | e :: _ => e
/-- One list more: the least head so far, the first list's of equals. -/
def lstep (o : Option E) (l : List E) : Option E := match l with
  | [] => o
  | e :: _ => match o with
    | none => some e
    | some f => if cmpS e.key f.key < 0 then some e else some f
def leastE (ls : List (List E)) : Option E := ls.foldl lstep none
theorem leastE_snoc (ls : List (List E)) (l : List E) : leastE (ls ++ [l]) = lstep (leastE ls) l := by simp [leastE]
def passK (k : ByteArray) (l : List E) : List E := match l with
  | [] => []
  | e :: t => if e.key = k then t else e :: t
def mergeN : Nat → List (List E) → Bool → List E
  | 0, _, _ => []
  | n + 1, ls, b => match leastE ls with
    | none => []
    | some e => (if b && e.del then [] else [e]) ++ mergeN n (ls.map (passK e.key)) b
def tot (ls : List (List E)) : Nat := (ls.map List.length).sum
def mergeL (ls : List (List E)) (b : Bool) : List E := mergeN (tot ls) ls b
/-- The rows that have a head, each with its age. -/
def pairs (ls : List (List E)) : List (Nat × List E) := (ls.zipIdx.map fun p => (p.2, p.1)).filter fun p => !p.2.isEmpty
theorem pairs_snoc (ls : List (List E)) (l : List E) : pairs (ls ++ [l]) = pairs ls ++ (if l.isEmpty then [] else [(ls.length, l)]) := by
  unfold pairs
  rw [List.zipIdx_append, List.map_append, List.filter_append]
  congr 1
  cases l <;> simp [List.zipIdx]
theorem pairs_nil : pairs [] = [] := rfl
theorem pairs_mem {ls : List (List E)} {p : Nat × List E} (h : p ∈ pairs ls) : p.1 < ls.length ∧ p.2 ≠ [] ∧ ls[p.1]? = some p.2 := by
  unfold pairs at h
  simp only [List.mem_filter, List.mem_map] at h
  obtain ⟨⟨q, hq, rfl⟩, h2⟩ := h
  have hm := List.mem_zipIdx hq
  refine ⟨by have := hm.2.1; simpa using this, by cases hx : q.1 with | nil => simp [hx] at h2 | cons a t => simp, ?_⟩
  have h3 := hm.2.2
  simp only [Nat.sub_zero] at h3
  rw [List.getElem?_eq_getElem (by simpa using hm.2.1)]
  exact congrArg some h3.symm
/-- Of two rows the one that is looked at first. -/
def cmpP (a b : Nat × List E) : Int := cmpE ⟨(hE a.2).key, ByteArray.empty, false, (a.1 : Int)⟩ ⟨(hE b.2).key, ByteArray.empty, false, (b.1 : Int)⟩
theorem cmpP_ord : Ord3 cmpP := ⟨fun _ _ => cmpE_ord.anti _ _, fun _ _ _ => cmpE_ord.trans _ _ _⟩
theorem cmpP_le {a b : Nat × List E} : cmpP a b ≤ 0 ↔ cmpS (hE a.2).key (hE b.2).key < 0 ∨ (hE a.2).key = (hE b.2).key ∧ a.1 ≤ b.1 := by
  have hd : cmpP a b = if cmpS (hE a.2).key (hE b.2).key ≠ 0 then cmpS (hE a.2).key (hE b.2).key else cmpI (a.1 : Int) (b.1 : Int) := rfl
  rw [hd]
  by_cases h : cmpS (hE a.2).key (hE b.2).key = 0
  · have e := cmpS_eq.1 h
    rw [if_neg (by simpa using h)]
    have := cmpI_le (a.1 : Int) (b.1 : Int)
    constructor
    · intro h2; exact .inr ⟨e, by have := this.1 h2; omega⟩
    · rintro (h2 | ⟨_, h2⟩)
      · omega
      · exact this.2 (by omega)
  · rw [if_pos (by simpa using h)]
    constructor
    · intro h2; exact .inl (by omega)
    · rintro (h2 | ⟨h2, _⟩)
      · omega
      · exact absurd (cmpS_eq.2 h2) h
theorem cmpP_key {a b : Nat × List E} (h : cmpP a b ≤ 0) : cmpS (hE a.2).key (hE b.2).key ≤ 0 := by
  rcases cmpP_le.1 h with h | ⟨h, _⟩
  · omega
  · have := cmpS_eq.2 h; omega
theorem cself (k : ByteArray) : cmpS k k = 0 := cmpS_eq.2 rfl
theorem canti (a b : ByteArray) : cmpS a b < 0 ↔ 0 < cmpS b a := cmpS_ord.anti a b
theorem ctrans {a b c : ByteArray} (h1 : cmpS a b ≤ 0) (h2 : cmpS b c ≤ 0) : cmpS a c ≤ 0 := cmpS_ord.trans _ _ _ h1 h2
theorem cltle {a b c : ByteArray} (h1 : cmpS a b < 0) (h2 : cmpS b c ≤ 0) : cmpS a c < 0 := by
  have h3 : cmpS a c ≤ 0 := ctrans (Int.le_of_lt h1) h2
  have h4 := canti a c; have h5 := canti c a; have h6 := canti a b; have h7 := canti b a
  by_cases h : cmpS a c = 0
  · have := cmpS_eq.1 h; subst this; omega
  · omega
theorem clelt {a b c : ByteArray} (h1 : cmpS a b ≤ 0) (h2 : cmpS b c < 0) : cmpS a c < 0 := by
  have h3 : cmpS a c ≤ 0 := ctrans h1 (Int.le_of_lt h2)
  have h4 := canti a c; have h5 := canti c a; have h6 := canti b c; have h7 := canti c b
  by_cases h : cmpS a c = 0
  · have := cmpS_eq.1 h; subst this; omega
  · omega
/-- What leastE tells: none without heads; else the head of a row ahead of all others. -/
theorem leastE_spec : ∀ (ls : List (List E)), (leastE ls = none ↔ pairs ls = []) ∧
    ∀ e, leastE ls = some e → ∃ p ∈ pairs ls, hE p.2 = e ∧ ∀ q ∈ pairs ls, cmpP p q ≤ 0 := by
  intro ls
  induction ls using snoc_rec with
  | h0 => exact ⟨⟨fun _ => rfl, fun _ => rfl⟩, fun e h => by cases h⟩
  | hs ls l ih =>
    rw [leastE_snoc, pairs_snoc]
    obtain ⟨ih1, ih2⟩ := ih
    cases l with
    | nil => rw [show (if ([] : List E).isEmpty = true then ([] : List (Nat × List E)) else [(ls.length, [])]) = [] from rfl, List.append_nil]; exact ⟨ih1, ih2⟩
    | cons e t =>
      simp only [lstep, List.isEmpty_cons, Bool.false_eq_true, if_false]
      cases h : leastE ls with
      | none =>
        have hp := ih1.1 h
        refine ⟨⟨fun h => (by cases h), fun h => (by simp at h)⟩, fun e' he => ?_⟩
        cases he
        refine ⟨_, List.mem_append_right _ (List.mem_singleton.2 rfl), rfl, fun q hq => ?_⟩
        rw [hp, List.nil_append, List.mem_singleton] at hq
        subst hq
        exact cmpP_le.2 (.inr ⟨rfl, Nat.le_refl _⟩)
      | some f =>
        obtain ⟨p, hp, hpe, hpm⟩ := ih2 f h
        have hpl := pairs_mem hp
        show (((if cmpS e.key f.key < 0 then some e else some f) = none) ↔ _) ∧ ∀ e', (if cmpS e.key f.key < 0 then some e else some f) = some e' → _
        refine ⟨⟨fun h => absurd h (by split <;> simp), fun h => absurd h (by simp)⟩, fun e' he => ?_⟩
        by_cases hc : cmpS e.key f.key < 0
        · rw [if_pos hc] at he
          cases he
          refine ⟨_, List.mem_append_right _ (List.mem_singleton.2 rfl), rfl, fun q hq => ?_⟩
          rcases List.mem_append.1 hq with hq | hq
          · refine cmpP_le.2 (.inl ?_)
            have := cmpP_key (hpm q hq)
            rw [hpe] at this
            exact cltle hc this
          · rw [List.mem_singleton] at hq
            subst hq
            exact cmpP_le.2 (.inr ⟨rfl, Nat.le_refl _⟩)
        · rw [if_neg hc] at he
          cases he
          refine ⟨p, List.mem_append_left _ hp, hpe, fun q hq => ?_⟩
          rcases List.mem_append.1 hq with hq | hq
          · exact hpm q hq
          · rw [List.mem_singleton] at hq
            subst hq
            refine cmpP_le.2 ?_
            rw [hpe]
            show cmpS f.key e.key < 0 ∨ f.key = e.key ∧ _
            have h1 := canti f.key e.key; have h2 := canti e.key f.key
            by_cases h0 : cmpS f.key e.key = 0
            · exact .inr ⟨cmpS_eq.1 h0, by have := hpl.1; omega⟩
            · exact .inl (by omega)
theorem pairs_age {ls : List (List E)} {p q : Nat × List E} (hp : p ∈ pairs ls) (hq : q ∈ pairs ls) (h : p.1 = q.1) : p = q := by
  have h1 := (pairs_mem hp).2.2; have h2 := (pairs_mem hq).2.2
  rw [h] at h1
  have := h1.symm.trans h2
  cases p; cases q; simp_all
theorem leastE_of {ls : List (List E)} {p : Nat × List E} (hp : p ∈ pairs ls) (h : ∀ q ∈ pairs ls, cmpP p q ≤ 0) : leastE ls = some (hE p.2) := by
  cases hl : leastE ls with
  | none => have := (leastE_spec ls).1.1 hl; rw [this] at hp; cases hp
  | some e =>
    obtain ⟨q, hq, hqe, hqm⟩ := (leastE_spec ls).2 e hl
    have h1 := cmpP_le.1 (h q hq); have h2 := cmpP_le.1 (hqm p hp)
    have hk : p = q := by
      refine pairs_age hp hq ?_
      have a1 := canti (hE p.2).key (hE q.2).key; have a2 := canti (hE q.2).key (hE p.2).key
      rcases h1 with h1 | ⟨h1, h1'⟩
      · rcases h2 with h2 | ⟨h2, _⟩
        · omega
        · rw [h2] at h1; have := cself (hE p.2).key; omega
      · rcases h2 with h2 | ⟨_, h2'⟩
        · rw [h1] at h2; have := cself (hE q.2).key; omega
        · omega
    subst hk; rw [hqe]
/-- The rows behind a step: those of another key, and of the others what is left. -/
def stepV (k : ByteArray) (V : List (Nat × List E)) : List (Nat × List E) :=
  (V.filter fun p => !decide ((hE p.2).key = k)) ++ ((V.filter fun p => decide ((hE p.2).key = k)).map fun p => (p.1, p.2.tail)).filter fun p => !p.2.isEmpty
theorem stepV_append (k : ByteArray) (A B : List (Nat × List E)) : (stepV k (A ++ B)).Perm (stepV k A ++ stepV k B) := by
  unfold stepV
  simp only [List.filter_append, List.map_append, List.append_assoc]
  refine List.Perm.append_left _ ?_
  rw [← List.append_assoc, ← List.append_assoc]
  exact List.Perm.append_right _ List.perm_append_comm
theorem stepV_perm (k : ByteArray) {A B : List (Nat × List E)} (h : A.Perm B) : (stepV k A).Perm (stepV k B) :=
  List.Perm.append (h.filter _) (((h.filter _).map _).filter _)
theorem stepV_pairs (k : ByteArray) : ∀ ls : List (List E), (stepV k (pairs ls)).Perm (pairs (ls.map (passK k))) := by
  intro ls
  induction ls using snoc_rec with
  | h0 => exact List.Perm.refl _
  | hs ls l ih =>
    rw [pairs_snoc, List.map_append, List.map_singleton, pairs_snoc]
    refine (stepV_append k _ _).trans (List.Perm.append ih ?_)
    rw [List.length_map]
    cases l with
    | nil => exact List.Perm.refl _
    | cons e t =>
      by_cases he : e.key = k
      · have h0 : passK k (e :: t) = t := by simp [passK, he]
        rw [h0]
        cases t <;> simp [stepV, hE, he]
      · have h0 : passK k (e :: t) = e :: t := by simp [passK, he]
        rw [h0]
        simp [stepV, hE, he]
theorem passK_len (k : ByteArray) (l : List E) : (passK k l).length ≤ l.length := by
  cases l with
  | nil => exact Nat.le_refl _
  | cons e t => unfold passK; simp only; split <;> simp
theorem tot_pass_le (k : ByteArray) : ∀ ls : List (List E), tot (ls.map (passK k)) ≤ tot ls
  | [] => Nat.le_refl _
  | l :: ls => by
    have h1 := tot_pass_le k ls; have h2 := passK_len k l
    simp only [tot, List.map_cons, List.sum_cons] at *
    omega
theorem tot_pass (e : E) : ∀ ls : List (List E), (∃ l ∈ ls, l ≠ [] ∧ (hE l).key = e.key) → tot (ls.map (passK e.key)) < tot ls
  | [], h => by obtain ⟨l, hl, _⟩ := h; cases hl
  | l :: ls, h => by
    have h1 := tot_pass_le e.key ls; have h2 := passK_len e.key l
    obtain ⟨m, hm, hm0, hmk⟩ := h
    simp only [tot, List.map_cons, List.sum_cons] at *
    rcases List.mem_cons.1 hm with rfl | hm
    · have : (passK e.key m).length < m.length := by
        cases m with
        | nil => exact absurd rfl hm0
        | cons f t => have hk : f.key = e.key := hmk; simp [passK, hk]
      omega
    · have := tot_pass e ls ⟨m, hm, hm0, hmk⟩
      simp only [tot] at this
      omega
theorem leastE_head {ls : List (List E)} {e : E} (h : leastE ls = some e) : ∃ l ∈ ls, l ≠ [] ∧ hE l = e := by
  obtain ⟨p, hp, hpe, _⟩ := (leastE_spec ls).2 e h
  obtain ⟨_, h0, h1⟩ := pairs_mem hp
  exact ⟨p.2, List.mem_of_getElem? h1, h0, hpe⟩
theorem leastE_tot {ls : List (List E)} {e : E} (h : leastE ls = some e) : tot (ls.map (passK e.key)) < tot ls := by
  obtain ⟨l, h1, h2, h3⟩ := leastE_head h
  exact tot_pass e ls ⟨l, h1, h2, by rw [h3]⟩
theorem mergeN_fuel : ∀ (n m : Nat) (ls : List (List E)) (b : Bool), tot ls ≤ n → tot ls ≤ m → mergeN n ls b = mergeN m ls b := by
  intro n
  induction n with
  | zero =>
    intro m ls b h1 h2
    have h0 : leastE ls = none := by
      cases h : leastE ls with
      | none => rfl
      | some e => have := leastE_tot h; omega
    cases m with
    | zero => rfl
    | succ m => simp only [mergeN, h0]
  | succ n ih =>
    intro m ls b h1 h2
    cases m with
    | zero =>
      have h0 : leastE ls = none := by
        cases h : leastE ls with
        | none => rfl
        | some e => have := leastE_tot h; omega
      simp only [mergeN, h0]
    | succ m =>
      rw [mergeN, mergeN]
      cases h : leastE ls with
      | none => rfl
      | some e => have := leastE_tot h; simp only; rw [ih m _ b (by omega) (by omega)]
theorem mergeL_none {ls : List (List E)} (b : Bool) (h : leastE ls = none) : mergeL ls b = [] := by
  unfold mergeL
  cases tot ls with
  | zero => rfl
  | succ n => rw [mergeN, h]
theorem mergeL_some {ls : List (List E)} (b : Bool) {e : E} (h : leastE ls = some e) : mergeL ls b = (if b && e.del then [] else [e]) ++ mergeL (ls.map (passK e.key)) b := by
  have ht := leastE_tot h
  unfold mergeL
  rw [mergeN_fuel (tot ls) (tot ls - 1 + 1) ls b (Nat.le_refl _) (by omega), mergeN, h]
  simp only
  rw [mergeN_fuel (tot ls - 1) (tot (ls.map (passK e.key))) _ b (by omega) (Nat.le_refl _)]
theorem mergeL_len : ∀ (n : Nat) (ls : List (List E)) (b : Bool), tot ls ≤ n → (mergeL ls b).length ≤ tot ls := by
  intro n
  induction n with
  | zero =>
    intro ls b h
    cases hl : leastE ls with
    | none => rw [mergeL_none b hl]; exact Nat.zero_le _
    | some e => have := leastE_tot hl; omega
  | succ n ih =>
    intro ls b h
    cases hl : leastE ls with
    | none => rw [mergeL_none b hl]; exact Nat.zero_le _
    | some e =>
      have ht := leastE_tot hl
      have := ih _ b (show tot (ls.map (passK e.key)) ≤ n by omega)
      rw [mergeL_some b hl, List.length_append]
      split <;> simp <;> omega
end Go.Proofs.Yteggjenncmjfmaa
