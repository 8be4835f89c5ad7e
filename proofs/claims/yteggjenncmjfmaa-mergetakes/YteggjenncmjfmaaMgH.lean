/-
  A heap in a list: plain mathematics, no program.
-/
import Derived.Test.YteggjenncmjfmaaFoldMath
namespace Go.Proofs.Yteggjenncmjfmaa
set_option linter.unusedSectionVars false
section
variable {α : Type} [Inhabited α] {cf : α → α → Int}
def swpL (R : List α) (i j : Nat) : List α := (R.set i R[j]!).set j R[i]!
theorem swpL_len (R : List α) (i j : Nat) : (swpL R i j).length = R.length := by simp [swpL]
theorem swpL_get (R : List α) (i j k : Nat) (_hi : i < R.length) (_hj : j < R.length) (hk : k < R.length) :
    (swpL R i j)[k]! = if k = j then R[i]! else if k = i then R[j]! else R[k]! := by
  rw [getElem!_pos (swpL R i j) k (by rw [swpL_len]; exact hk)]
  unfold swpL
  rw [List.getElem_set]
  by_cases h1 : j = k
  · rw [if_pos h1, if_pos h1.symm]
  · rw [if_neg h1, if_neg (fun h => h1 h.symm), List.getElem_set]
    by_cases h2 : i = k
    · rw [if_pos h2, if_pos h2.symm]
    · rw [if_neg h2, if_neg (fun h => h2 h.symm), getElem!_pos R k hk]
theorem swpL_perm (R : List α) (i j : Nat) (hi : i < R.length) (hj : j < R.length) : (swpL R i j).Perm R := by
  have h := Array.swap_perm (xs := R.toArray) (i := i) (j := j) (by simpa using hi) (by simpa using hj)
  have h2 := Array.perm_iff_toList_perm.1 h
  have e : (R.toArray.swap i j (by simpa using hi) (by simpa using hj)).toList = swpL R i j := by
    unfold swpL
    simp [Array.swap_def, getElem!_pos R i hi, getElem!_pos R j hj]
  rw [e] at h2
  simpa using h2
/-- The first n of R are a heap. -/
def Heap (cf : α → α → Int) (R : List α) (n : Nat) : Prop := ∀ i, i < n → 0 < i → cf R[(i - 1) / 2]! R[i]! ≤ 0
/-- A heap, but that what stands at j may be less than its parent. -/
def UpInv (cf : α → α → Int) (R : List α) (j : Nat) : Prop :=
  (∀ i, i < R.length → 0 < i → i ≠ j → cf R[(i - 1) / 2]! R[i]! ≤ 0) ∧ (∀ i, i < R.length → 0 < i → (i - 1) / 2 = j → 0 < j → cf R[(j - 1) / 2]! R[i]! ≤ 0)
/-- A heap, but that what stands at i may be greater than its children. -/
def DnInv (cf : α → α → Int) (R : List α) (n i : Nat) : Prop :=
  (∀ k, k < n → 0 < k → (k - 1) / 2 ≠ i → cf R[(k - 1) / 2]! R[k]! ≤ 0) ∧ (∀ k, k < n → 0 < k → (k - 1) / 2 = i → 0 < i → cf R[(i - 1) / 2]! R[k]! ≤ 0)
theorem heap_up {R : List α} {x : α} (h : Heap cf R R.length) : UpInv cf (R ++ [x]) R.length := by
  have hg : ∀ i, i < R.length → (R ++ [x])[i]! = R[i]! := fun i hi => by
    rw [getElem!_pos (R ++ [x]) i (by simp; omega), getElem!_pos R i hi, List.getElem_append_left hi]
  constructor
  · intro i hi h0 hne
    rw [List.length_append, List.length_singleton] at hi
    rw [hg _ (by omega), hg i (by omega)]
    exact h i (by omega) h0
  · intro i hi h0 he _
    rw [List.length_append, List.length_singleton] at hi
    omega
theorem up_top {R : List α} (h : UpInv cf R 0) : Heap cf R R.length := fun i hi h0 => h.1 i hi h0 (by omega)
theorem up_done {R : List α} {j : Nat} (h : UpInv cf R j) (hc : cf R[(j - 1) / 2]! R[j]! ≤ 0) : Heap cf R R.length := fun i hi h0 => by
  by_cases e : i = j
  · subst e; exact hc
  · exact h.1 i hi h0 e
theorem up_step (O : Ord3 cf) {R : List α} {j : Nat} (hj : j < R.length) (h0 : 0 < j) (h : UpInv cf R j) (hc : cf R[j]! R[(j - 1) / 2]! < 0) : UpInv cf (swpL R ((j - 1) / 2) j) ((j - 1) / 2) := by
  have hp : (j - 1) / 2 < R.length := by omega
  have hpj : (j - 1) / 2 < j := by omega
  have G := fun k hk => swpL_get R ((j - 1) / 2) j k hp hj hk
  obtain ⟨h1, h2⟩ := h
  constructor
  · intro i hi hi0 hne
    rw [swpL_len] at hi
    rw [G i hi, G _ (by omega)]
    by_cases e1 : i = j
    · subst e1
      rw [if_pos rfl, if_neg (by omega), if_pos rfl]; omega
    · rw [if_neg e1, if_neg hne]
      by_cases e2 : (i - 1) / 2 = j
      · rw [if_pos e2]
        exact h2 i hi hi0 e2 h0
      · rw [if_neg e2]
        by_cases e3 : (i - 1) / 2 = (j - 1) / 2
        · rw [if_pos e3]
          have a := h1 i hi hi0 e1
          rw [e3] at a
          exact O.trans _ _ _ (by omega) a
        · rw [if_neg e3]; exact h1 i hi hi0 e1
  · intro i hi hi0 he hq
    rw [swpL_len] at hi
    rw [G i hi, G _ (by omega), if_neg (by omega), if_neg (by omega)]
    have a := h1 _ hp hq (by omega)
    by_cases e1 : i = j
    · rw [if_pos e1]; exact a
    · rw [if_neg e1, if_neg (by omega)]
      have b := h1 i hi hi0 e1
      rw [he] at b
      exact O.trans _ _ _ a b
theorem heap_min (O : Ord3 cf) {R : List α} {n : Nat} (h : Heap cf R n) : ∀ i, i < n → cf R[0]! R[i]! ≤ 0 := by
  intro i
  induction i using Nat.strongRecOn with
  | ind i ih =>
    intro hi
    by_cases h0 : i = 0
    · subst h0; have := O.anti R[0]! R[0]!; omega
    · exact O.trans _ _ _ (ih ((i - 1) / 2) (by omega) (by omega)) (h i hi (by omega))
/-- The first one of a heap and its last one have changed places: what is left of it, but for the top, is one. -/
theorem heap_dn {R : List α} {n : Nat} (hn : n + 1 = R.length) (h : Heap cf R R.length) : DnInv cf (swpL R 0 n) n 0 := by
  constructor
  · intro k hk h0 hne
    rw [swpL_get R 0 n k (by omega) (by omega) (by omega), swpL_get R 0 n _ (by omega) (by omega) (by omega), if_neg (by omega), if_neg (by omega), if_neg (by omega), if_neg (by omega)]
    exact h k (by omega) h0
  · intro k _ _ _ hq; omega
theorem dn_leaf {R : List α} {n i : Nat} (h : DnInv cf R n i) (hl : n ≤ 2 * i + 1) : Heap cf R n := fun k hk h0 => h.1 k hk h0 (by omega)
theorem dn_done {R : List α} {n i : Nat} (h : DnInv cf R n i) (hc : ∀ k, k < n → 0 < k → (k - 1) / 2 = i → cf R[i]! R[k]! ≤ 0) : Heap cf R n := fun k hk h0 => by
  by_cases e : (k - 1) / 2 = i
  · rw [e]; exact hc k hk h0 e
  · exact h.1 k hk h0 e
theorem dn_step {R : List α} {n i j : Nat} (hn : n ≤ R.length) (hj : j < n) (hji : (j - 1) / 2 = i) (h0 : 0 < j) (h : DnInv cf R n i)
    (hm : ∀ k, k < n → 0 < k → (k - 1) / 2 = i → cf R[j]! R[k]! ≤ 0) (hc : cf R[j]! R[i]! < 0) : DnInv cf (swpL R i j) n j := by
  have hi : i < j := by omega
  have G := fun k (hk : k < n) => swpL_get R i j k (by omega) (by omega) (by omega)
  obtain ⟨h1, h2⟩ := h
  constructor
  · intro k hk hk0 hne
    rw [G k hk, G _ (by omega), if_neg hne]
    by_cases e1 : k = j
    · subst e1
      rw [if_pos rfl, if_pos hji]; omega
    · rw [if_neg e1]
      by_cases e2 : k = i
      · subst e2
        rw [if_pos rfl, if_neg (by omega)]
        have := h2 j hj h0 hji (by omega)
        exact this
      · rw [if_neg e2]
        by_cases e3 : (k - 1) / 2 = i
        · rw [if_pos e3]; exact hm k hk hk0 e3
        · rw [if_neg e3]; exact h1 k hk hk0 e3
  · intro k hk hk0 he _
    rw [G k hk, G _ (by omega), if_neg (by omega), if_pos hji, if_neg (by omega), if_neg (by omega)]
    have := h1 k hk hk0 (by omega)
    rw [he] at this; exact this
end
end Go.Proofs.Yteggjenncmjfmaa
