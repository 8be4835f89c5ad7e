/-
  A fold of folds is the fold of all: plain mathematics, no program.
-/
import Derived.Test.YteggjenncmjfmaaFinds
namespace Go.Proofs.Yteggjenncmjfmaa
set_option linter.unusedSectionVars false
variable [Inhabited E]
/-- One behind the other. -/
def comb (o p : Option E) : Option E :=
  match p with
  | none => o
  | some e => lat o e
theorem comb_lat (o p : Option E) (e : E) : comb o (lat p e) = lat (comb o p) e := by
  cases p with
  | none => rfl
  | some b =>
    cases o with
    | none =>
      simp only [lat, comb]
      by_cases h : b.seq ≤ e.seq <;> simp [h]
    | some a =>
      simp only [lat, comb]
      by_cases h : b.seq ≤ e.seq
      · by_cases h2 : a.seq ≤ b.seq
        · simp [h, h2, show a.seq ≤ e.seq by omega]
        · simp [h, h2]
      · by_cases h2 : a.seq ≤ b.seq
        · simp [h, h2]
        · simp [h, h2, show ¬ a.seq ≤ e.seq by omega]
theorem best_snoc (k : ByteArray) (o : Option E) (l : List E) (e : E) : best k o (l ++ [e]) = if e.key = k then lat (best k o l) e else best k o l := by
  unfold best; rw [List.foldl_append]; rfl
theorem best_comb (k : ByteArray) (o : Option E) (l : List E) : best k o l = comb o (best k none l) := by
  induction l using snoc_rec with
  | h0 => rfl
  | hs l e ih =>
    rw [best_snoc, best_snoc, ih]
    by_cases h : e.key = k
    · rw [if_pos h, if_pos h, comb_lat]
    · rw [if_neg h, if_neg h]
theorem best_ks (k : ByteArray) : ∀ {f : List E}, Ks f → best k none f = lk k f
  | [], _ => rfl
  | e :: r, h => by
    have hr := (List.pairwise_cons.1 h).2
    have ih := best_ks k hr
    show best k (if e.key = k then lat none e else none) r = _
    rw [best_comb, lk_cons]
    by_cases c : e.key = k
    · subst c
      rw [if_pos rfl, if_pos rfl, ih, lk_head h]
      rfl
    · rw [if_neg c, if_neg c, ih]
      cases lk k r <;> rfl
theorem foldS_idem {f : List E} (h : Ks f) : foldS f = f :=
  ks_ext (ks_foldS f) h fun k => by rw [lk_foldS, best_ks k h]
theorem foldS_parts (a b : List E) : foldS (foldS a ++ foldS b) = foldS (a ++ b) := by
  refine ks_ext (ks_foldS _) (ks_foldS _) fun k => ?_
  have hap : ∀ (x y : List E), best k none (x ++ y) = comb (best k none x) (best k none y) := by
    intro x y
    rw [← best_comb]
    unfold best
    rw [List.foldl_append]
  rw [lk_foldS, lk_foldS, hap, hap, best_ks k (ks_foldS a), best_ks k (ks_foldS b), lk_foldS, lk_foldS]
theorem ks_index {f : List E} (h : Ks f) {x : E} (hx : x ∈ f) : belowN x.key f < f.length ∧ f[belowN x.key f]! = x ∧ isIn x.key f = true := by
  obtain ⟨i, hi, hxi⟩ := List.getElem_of_mem hx
  have hget : f[i]! = x := by rw [getElem!_pos f i hi, hxi]
  have h1 := ks_place x.key h i hi
  have hle := belowN_le x.key f
  have h2 : ¬ i < belowN x.key f := fun hc => by
    have := h1.2 hc
    rw [hget] at this
    have := cmpS_ord.self x.key; omega
  have h3 : belowN x.key f = i := by
    by_cases hlt : belowN x.key f < i
    · exfalso
      have h4 := ks_place x.key h (belowN x.key f) (by omega)
      have h5 := List.pairwise_iff_getElem.1 h (belowN x.key f) i (by omega) hi hlt
      rw [hxi] at h5
      have h6 := h4.1 (by rw [getElem!_pos f _ (by omega)]; exact h5)
      omega
    · omega
  refine ⟨by omega, by rw [h3]; exact hget, ?_⟩
  unfold isIn
  rw [List.any_eq_true]
  exact ⟨x, hx, by simp⟩
/-- Each key of a list is in its fold, with a number that is not less. -/
theorem foldS_has {l : List E} {e : E} (he : e ∈ l) : ∃ x, x ∈ foldS l ∧ x.key = e.key ∧ e.seq ≤ x.seq := by
  have hn : ofKey e.key l ≠ [] := List.ne_nil_of_mem (List.mem_filter.2 ⟨he, by simp⟩)
  obtain ⟨x, hx⟩ := lat_some _ hn
  obtain ⟨h1, h2, h3⟩ := lat_spec _ x hx
  have hl : lk e.key (foldS l) = some x := by rw [lk_foldS, best_ofKey, hx]
  obtain ⟨hm, hk⟩ := lk_mem hl
  exact ⟨x, hm, hk, h1 e (List.mem_filter.2 ⟨he, by simp⟩)⟩
end Go.Proofs.Yteggjenncmjfmaa
