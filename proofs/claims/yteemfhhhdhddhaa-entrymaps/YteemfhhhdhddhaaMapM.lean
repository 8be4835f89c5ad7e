/-
  A map behind one entry more: plain mathematics, no program.
-/
import Derived.Test.YteemfhhhdhddhaaMapD
import Derived.Test.YteemfhhhdhddhaaRefF
namespace Go.Proofs.Yteemfhhhdhddhaa
set_option linter.unusedSectionVars false
variable [Inhabited E] [DecidableEq E]
theorem filt_append (a b : List E) : filt (a ++ b) = filt a ++ filt b := by unfold filt; rw [List.filter_append]
theorem mem_filt {es : List E} {x : E} (h : x ∈ filt es) : x ∈ es ∧ x.del = false := by
  unfold filt at h
  rw [List.mem_filter] at h
  exact ⟨h.1, by simpa using h.2⟩
theorem best_mem (k : ByteArray) : ∀ (l : List E) (o : Option E) (x : E), best k o l = some x → o = some x ∨ x ∈ l := by
  intro l
  induction l using snoc_rec with
  | h0 => intro o x h; exact .inl h
  | hs l e ih =>
    intro o x h
    rw [best_snoc] at h
    by_cases c : e.key = k
    · rw [if_pos c] at h
      cases hb : best k o l with
      | none => rw [hb] at h; cases h; exact .inr (by simp)
      | some b =>
        rw [hb] at h
        simp only [lat] at h
        by_cases hs : b.seq ≤ e.seq
        · rw [if_pos hs] at h; cases h; exact .inr (by simp)
        · rw [if_neg hs] at h
          cases h
          rcases ih o x hb with h1 | h1
          · exact .inl h1
          · exact .inr (by simp [h1])
    · rw [if_neg c] at h
      rcases ih o x h with h1 | h1
      · exact .inl h1
      · exact .inr (by simp [h1])
theorem foldS_mem {l : List E} {x : E} (h : x ∈ foldS l) : x ∈ l := by
  have h1 : lk x.key (foldS l) = some x := by
    obtain ⟨h2, h3, h4⟩ := ks_index (ks_foldS l) h
    unfold lk
    have hk := ks_foldS l
    rw [List.find?_eq_some_iff_getElem]
    refine ⟨by simp, belowN x.key (foldS l), h2, by rw [getElem!_pos (foldS l) _ h2] at h3; exact h3, fun j hj => ?_⟩
    have h5 := (ks_place x.key hk j (by omega)).2 hj
    rw [getElem!_pos (foldS l) j (by omega)] at h5
    simp only [Bool.not_eq_true', decide_eq_false_iff_not]
    intro hc
    rw [hc] at h5
    have := cmpS_ord.self x.key
    omega
  rw [lk_foldS] at h1
  rcases best_mem x.key l none x h1 with h2 | h2
  · cases h2
  · exact h2
/-- The map ahead and the map behind: the same but for one key. -/
theorem maps_parts (l : List E) (e : E) (hs : ∀ x ∈ l, x.seq ≤ e.seq) : ∃ A X C : List E,
    filt (foldS l) = A ++ (X ++ C) ∧ filt (foldS (l ++ [e])) = A ++ ((if e.del then [] else [e]) ++ C) ∧
    (X = [] ∨ ∃ x, X = [x] ∧ x.key = e.key) ∧ (∀ a ∈ A, cmpS a.key e.key < 0) ∧ (∀ b ∈ C, cmpS e.key b.key < 0) := by
  have hk := ks_foldS l
  have hp := insS_place e hk
  have hf : foldS (l ++ [e]) = insS (foldS l) e := by unfold foldS; rw [List.foldl_append]; rfl
  obtain ⟨O, HO⟩ : ∃ O, foldS l = O := ⟨_, rfl⟩
  have hsO : ∀ x ∈ O, x.seq ≤ e.seq := fun x hx => hs x (foldS_mem (HO ▸ hx))
  rw [hf]
  rw [HO] at hp hk ⊢
  obtain ⟨m, HM⟩ : ∃ m, belowN e.key O = m := ⟨_, rfl⟩
  have hpl := ks_place e.key hk
  have hin := ks_isIn e.key hk
  have hml := belowN_le e.key O
  rw [HM] at hp hpl hin hml
  have hA : ∀ a ∈ filt (O.take m), cmpS a.key e.key < 0 := by
    intro a ha
    obtain ⟨i, hi, rfl⟩ := List.getElem_of_mem (mem_filt ha).1
    rw [List.length_take] at hi
    have := (hpl i (by omega)).2 (by omega)
    rw [getElem!_pos O i (by omega)] at this
    rw [List.getElem_take]; exact this
  have hge : ∀ i, m ≤ i → (h : i < O.length) → ¬ cmpS O[i].key e.key < 0 := by
    intro i hi h hc
    have := (hpl i h).1 (by rw [getElem!_pos O i h]; exact hc)
    omega
  cases hy : isIn e.key O with
  | true =>
    rw [hy] at hin hp
    have hmO : m < O.length := by
      by_cases h : m < O.length
      · exact h
      · rw [decide_eq_false h] at hin; simp at hin
    have hkm : O[m]!.key = e.key := by
      rw [decide_eq_true hmO] at hin; simpa using hin.symm
    have hx : O[m]! ∈ O := by rw [getElem!_pos O m hmO]; exact List.getElem_mem hmO
    rw [if_pos rfl, if_pos (hsO _ hx)] at hp
    have hsplit : O = O.take m ++ ([O[m]!] ++ O.drop (m + 1)) := by
      conv => lhs; rw [← List.take_append_drop m O, List.drop_eq_getElem_cons hmO]
      rw [getElem!_pos O m hmO]; rfl
    have hset : O.set m e = O.take m ++ ([e] ++ O.drop (m + 1)) := by
      rw [List.set_eq_take_append_cons_drop, if_pos hmO]; rfl
    refine ⟨filt (O.take m), filt [O[m]!], filt (O.drop (m + 1)), ?_, ?_, ?_, hA, ?_⟩
    · conv => lhs; rw [hsplit]
      rw [filt_append, filt_append]
    · rw [hp, hset, filt_append, filt_append]
      cases hd : e.del <;> simp [filt, hd]
    · cases hd : O[m]!.del with
      | true => exact .inl (by unfold filt; rw [List.filter_cons, hd]; rfl)
      | false => exact .inr ⟨O[m]!, by unfold filt; rw [List.filter_cons, hd]; rfl, hkm⟩
    · intro b hb
      obtain ⟨i, hi, rfl⟩ := List.getElem_of_mem (mem_filt hb).1
      rw [List.length_drop] at hi
      rw [List.getElem_drop, ← hkm, getElem!_pos O m hmO]
      exact List.pairwise_iff_getElem.1 hk m (m + 1 + i) hmO (by omega) (by omega)
  | false =>
    rw [hy] at hin hp
    rw [if_neg (by simp)] at hp
    refine ⟨filt (O.take m), [], filt (O.drop m), ?_, ?_, .inl rfl, hA, ?_⟩
    · rw [List.nil_append, ← filt_append, List.take_append_drop]
    · rw [hp, List.append_assoc, filt_append, filt_append]
      cases hd : e.del <;> simp [filt, hd]
    · intro b hb
      obtain ⟨i, hi, rfl⟩ := List.getElem_of_mem (mem_filt hb).1
      rw [List.length_drop] at hi
      rw [List.getElem_drop]
      have h1 := hge (m + i) (by omega) (by omega)
      have hne : ¬ O[m + i].key = e.key := fun hc => by
        have : isIn e.key O = true := by
          unfold isIn; rw [List.any_eq_true]
          exact ⟨_, List.getElem_mem (by omega : m + i < O.length), by simp [hc]⟩
        rw [this] at hy; cases hy
      have h2 := cmpS_ord.anti e.key O[m + i].key
      by_cases h0 : cmpS O[m + i].key e.key = 0
      · exact absurd (cmpS_eq.1 h0) hne
      · omega
end Go.Proofs.Yteemfhhhdhddhaa
