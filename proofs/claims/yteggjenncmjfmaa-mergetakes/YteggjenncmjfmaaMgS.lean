/-
  What is merged of lists whose keys rise: plain mathematics, no program.
-/
import Derived.Test.YteggjenncmjfmaaMgM
import Derived.Test.YteggjenncmjfmaaFoldM
namespace Go.Proofs.Yteggjenncmjfmaa
set_option linter.unusedSectionVars false
set_option linter.unusedVariables false
variable [Inhabited E]
/-- The first list's entry of the key. -/
def lkF (k : ByteArray) (ls : List (List E)) : Option E := ls.findSome? (lk k)
theorem lkF_nil (k : ByteArray) : lkF k [] = none := rfl
theorem lkF_cons (k : ByteArray) (l : List E) (ls : List (List E)) : lkF k (l :: ls) = (lk k l).or (lkF k ls) := by
  unfold lkF; rw [List.findSome?_cons]; cases lk k l <;> rfl
def Rise (ls : List (List E)) : Prop := ∀ l ∈ ls, Ks l
theorem ks_tail {e : E} {t : List E} (h : Ks (e :: t)) : Ks t := (List.pairwise_cons.1 h).2
theorem ks_first {e : E} {t : List E} (h : Ks (e :: t)) : ∀ x ∈ t, cmpS e.key x.key < 0 := (List.pairwise_cons.1 h).1
theorem ks_pass {k : ByteArray} {l : List E} (h : Ks l) : Ks (passK k l) := by
  cases l with
  | nil => exact h
  | cons e t => unfold passK; simp only; split; exact ks_tail h; exact h
theorem rise_pass {k : ByteArray} {ls : List (List E)} (h : Rise ls) : Rise (ls.map (passK k)) := fun l hl => by
  obtain ⟨m, hm, rfl⟩ := List.mem_map.1 hl
  exact ks_pass (h m hm)
theorem lk_pass {k c : ByteArray} (hk : k ≠ c) (l : List E) : lk k (passK c l) = lk k l := by
  cases l with
  | nil => rfl
  | cons e t =>
    unfold passK; simp only
    split
    · rename_i he; rw [lk_cons, if_neg (fun h => hk (h.symm.trans he))]
    · rfl
theorem lkF_pass {k c : ByteArray} (hk : k ≠ c) : ∀ ls : List (List E), lkF k (ls.map (passK c)) = lkF k ls
  | [] => rfl
  | l :: ls => by rw [List.map_cons, lkF_cons, lkF_cons, lk_pass hk, lkF_pass hk ls]
/-- All keys are k or above it. -/
def From (k : ByteArray) (ls : List (List E)) : Prop := ∀ l ∈ ls, l ≠ [] → cmpS k (hE l).key ≤ 0
theorem pass_above {k : ByteArray} {l : List E} (hl : Ks l) (h : l ≠ [] → cmpS k (hE l).key ≤ 0) : ∀ x ∈ passK k l, cmpS k x.key < 0 := by
  cases l with
  | nil => intro x hx; cases hx
  | cons e t =>
    have h1 : cmpS k e.key ≤ 0 := h (by simp)
    unfold passK; simp only
    split
    · rename_i he
      intro x hx
      have := ks_first hl x hx
      rw [he] at this; exact this
    · rename_i he
      intro x hx
      have h2 : cmpS k e.key < 0 := by
        by_cases h0 : cmpS k e.key = 0
        · exact absurd (cmpS_eq.1 h0).symm he
        · omega
      rcases List.mem_cons.1 hx with rfl | hx
      · exact h2
      · have := ks_first hl x hx
        exact cltle h2 (by omega)
theorem lk_least {k : ByteArray} {l : List E} (hl : Ks l) (h : l ≠ [] → cmpS k (hE l).key ≤ 0) : lk k l = if l ≠ [] ∧ (hE l).key = k then some (hE l) else none := by
  cases l with
  | nil => simp [lk_nil]
  | cons e t =>
    rw [lk_cons]
    by_cases he : e.key = k
    · rw [if_pos he, if_pos ⟨by simp, he⟩]; rfl
    · rw [if_neg he, if_neg (fun hh => he hh.2)]
      refine lk_none (fun x hx hxk => ?_)
      have h1 : cmpS k e.key ≤ 0 := h (by simp)
      have h2 := ks_first hl x hx
      rw [hxk] at h2
      have := clelt h1 h2
      have := cself k
      omega
theorem lkF_snoc (k : ByteArray) (l : List E) : ∀ ls : List (List E), lkF k (ls ++ [l]) = (lkF k ls).or (lk k l)
  | [] => by rw [List.nil_append, lkF_cons, lkF_nil]; cases lk k l <;> rfl
  | m :: ls => by rw [List.cons_append, lkF_cons, lkF_cons, lkF_snoc k l ls, Option.or_assoc]
theorem leastE_from {ls : List (List E)} {e : E} (h : leastE ls = some e) : From e.key ls := fun l hl h0 => by
  obtain ⟨p, hp, hpe, hm⟩ := (leastE_spec ls).2 e h
  obtain ⟨i, hi, hil⟩ := List.getElem_of_mem hl
  have hq : (i, l) ∈ pairs ls := by
    unfold pairs
    simp only [List.mem_filter, List.mem_map]
    refine ⟨⟨(l, i), ?_, rfl⟩, by cases l <;> simp_all⟩
    exact List.mem_zipIdx_iff_getElem?.2 (by rw [List.getElem?_eq_getElem hi, hil])
  have := cmpP_key (hm _ hq)
  rw [hpe] at this; exact this
theorem leastE_first : ∀ (ls : List (List E)), Rise ls → ∀ e, leastE ls = some e → lkF e.key ls = some e := by
  intro ls
  induction ls using snoc_rec with
  | h0 => intro _ e h; cases h
  | hs ls l ih =>
    intro hr e h
    have hf := leastE_from h
    have hl : Ks l := hr l (by simp)
    have hr2 : Rise ls := fun m hm => hr m (List.mem_append_left _ hm)
    rw [lkF_snoc, lk_least hl (hf l (by simp))]
    rw [leastE_snoc] at h
    have hnone : ∀ f, leastE ls = some f → cmpS e.key f.key < 0 → lkF e.key ls = none := fun f hlf hlt => by
      unfold lkF
      rw [List.findSome?_eq_none_iff]
      intro m hm
      refine lk_none (fun x hx hxk => ?_)
      have h1 := leastE_from hlf m hm (fun h0 => by rw [h0] at hx; cases hx)
      have h2 : cmpS (hE m).key x.key ≤ 0 := by
        cases m with
        | nil => cases hx
        | cons a t =>
          rcases List.mem_cons.1 hx with rfl | hx
          · have := cself x.key; show cmpS x.key x.key ≤ 0; omega
          · have := ks_first (hr2 _ hm) x hx
            show cmpS a.key x.key ≤ 0; omega
      have h3 := ctrans h1 h2
      rw [hxk] at h3
      have := cltle hlt h3
      have := cself e.key
      omega
    cases l with
    | nil =>
      have h' : leastE ls = some e := h
      rw [ih hr2 e h']; rfl
    | cons a t =>
      cases hls : leastE ls with
      | none =>
        rw [hls] at h
        have h' : some a = some e := h
        cases h'
        have : lkF e.key ls = none := by
          unfold lkF
          rw [List.findSome?_eq_none_iff]
          intro m hm
          cases m with
          | nil => rfl
          | cons b u =>
            have hp := (leastE_spec ls).1.1 hls
            obtain ⟨i, hi, hil⟩ := List.getElem_of_mem hm
            have : (i, b :: u) ∈ pairs ls := by
              unfold pairs
              simp only [List.mem_filter, List.mem_map]
              exact ⟨⟨(b :: u, i), List.mem_zipIdx_iff_getElem?.2 (by rw [List.getElem?_eq_getElem hi, hil]), rfl⟩, rfl⟩
            rw [hp] at this; cases this
        rw [this, if_pos ⟨by simp, rfl⟩]; rfl
      | some f =>
        rw [hls] at h
        have h' : (if cmpS a.key f.key < 0 then some a else some f) = some e := h
        by_cases hc : cmpS a.key f.key < 0
        · rw [if_pos hc] at h'
          cases h'
          rw [hnone f hls hc, if_pos ⟨by simp, rfl⟩]; rfl
        · rw [if_neg hc] at h'
          cases h'
          rw [ih hr2 e hls]; rfl
/-- The merge of lists whose keys rise: rising, and of each key the first list's entry. -/
theorem merge_spec (b : Bool) : ∀ (n : Nat) (ls : List (List E)), tot ls ≤ n → Rise ls → Ks (mergeL ls b) ∧ ∀ k, lk k (mergeL ls b) = (lkF k ls).filter fun e => !(b && e.del) := by
  intro n
  induction n with
  | zero =>
    intro ls h hr
    cases hl : leastE ls with
    | some e => have := leastE_tot hl; omega
    | none =>
      rw [mergeL_none b hl]
      refine ⟨List.Pairwise.nil, fun k => ?_⟩
      have : lkF k ls = none := by
        unfold lkF
        rw [List.findSome?_eq_none_iff]
        intro m hm
        cases m with
        | nil => rfl
        | cons c u =>
          have : (c :: u).length ≤ tot ls := by
            unfold tot
            clear h hr hl
            induction ls with
            | nil => cases hm
            | cons x xs ih2 =>
              rw [List.map_cons, List.sum_cons]
              rcases List.mem_cons.1 hm with rfl | hm
              · omega
              · have := ih2 hm; omega
          simp only [List.length_cons] at this; omega
      rw [this]; rfl
  | succ n ih =>
    intro ls h hr
    cases hl : leastE ls with
    | none =>
      rw [mergeL_none b hl]
      refine ⟨List.Pairwise.nil, fun k => ?_⟩
      have : lkF k ls = none := by
        unfold lkF
        rw [List.findSome?_eq_none_iff]
        intro m hm
        cases m with
        | nil => rfl
        | cons c u =>
          have hp := (leastE_spec ls).1.1 hl
          obtain ⟨i, hi, hil⟩ := List.getElem_of_mem hm
          have : (i, c :: u) ∈ pairs ls := by
            unfold pairs
            simp only [List.mem_filter, List.mem_map]
            exact ⟨⟨(c :: u, i), List.mem_zipIdx_iff_getElem?.2 (by rw [List.getElem?_eq_getElem hi, hil]), rfl⟩, rfl⟩
          rw [hp] at this; cases this
      rw [this]; rfl
    | some e =>
      have ht := leastE_tot hl
      obtain ⟨i1, i2⟩ := ih (ls.map (passK e.key)) (by omega) (rise_pass hr)
      have hfr := leastE_from hl
      have habove : ∀ x ∈ mergeL (ls.map (passK e.key)) b, cmpS e.key x.key < 0 := fun x hx => by
        have h1 := lk_of_mem i1 hx
        rw [i2] at h1
        have h2 : lkF x.key (ls.map (passK e.key)) = some x := by
          cases hq : lkF x.key (ls.map (passK e.key)) with
          | none => rw [hq] at h1; cases h1
          | some y =>
            rw [hq] at h1
            rw [Option.filter_some] at h1
            split at h1
            · exact h1
            · cases h1
        unfold lkF at h2
        obtain ⟨m, hm, hmx⟩ := List.exists_of_findSome?_eq_some h2
        obtain ⟨l, hll, rfl⟩ := List.mem_map.1 hm
        exact pass_above (hr l hll) (hfr l hll) x (lk_mem hmx).1
      have hnone : lk e.key (mergeL (ls.map (passK e.key)) b) = none := lk_none fun x hx hxk => by
        have := habove x hx
        rw [hxk] at this
        have := cself e.key
        omega
      rw [mergeL_some b hl]
      refine ⟨?_, fun k => ?_⟩
      · split
        · exact i1
        · exact List.pairwise_cons.2 ⟨habove, i1⟩
      · by_cases hk : k = e.key
        · subst hk
          rw [leastE_first ls hr e hl, Option.filter_some]
          cases hb : (b && e.del)
          · show lk e.key (e :: _) = _
            rw [lk_cons, if_pos rfl]; rfl
          · show lk e.key (mergeL _ b) = _
            rw [hnone]; rfl
        · rw [← lkF_pass hk ls, ← i2]
          split
          · rfl
          · show lk k (e :: _) = _
            rw [lk_cons, if_neg (fun hh => hk hh.symm)]; rfl
theorem merge_ks {ls : List (List E)} (b : Bool) (h : Rise ls) : Ks (mergeL ls b) := (merge_spec b _ ls (Nat.le_refl _) h).1
theorem merge_lk {ls : List (List E)} (b : Bool) (h : Rise ls) (k : ByteArray) : lk k (mergeL ls b) = (lkF k ls).filter fun e => !(b && e.del) := (merge_spec b _ ls (Nat.le_refl _) h).2 k
end Go.Proofs.Yteggjenncmjfmaa
