/-
  One round over the map ahead and the map behind: plain mathematics, no program.
-/
import Derived.Test.YteemfhhhdhddhaaMapM
namespace Go.Proofs.Yteemfhhhdhddhaa
set_option linter.unusedSectionVars false
variable [Inhabited E] [DecidableEq E]
/-- How far the map behind is when the map ahead is at i. -/
def AtRel (a x y t i : Nat) : Prop := (i ≤ a ∧ t = i) ∨ (i = a + x ∧ t = a) ∨ ∃ j, 1 ≤ j ∧ i = a + x + j ∧ t = a + y + j
theorem at3 {A X C : List E} {j : Nat} (h : j < C.length) : (A ++ (X ++ C))[A.length + X.length + j]! = C[j]! := by
  rw [getElem!_pos (A ++ (X ++ C)) _ (by simp only [List.length_append]; omega), getElem!_pos C j h, List.getElem_append_right (by omega), List.getElem_append_right (by omega)]
  congr 1; omega
theorem at1 {A R : List E} {i : Nat} (h : i < A.length) : (A ++ R)[i]! = A[i]! := by
  rw [getElem!_pos (A ++ R) i (by rw [List.length_append]; omega), getElem!_pos A i h, List.getElem_append_left h]
theorem at2 {A C : List E} (x : E) : (A ++ ([x] ++ C))[A.length]! = x := by
  rw [getElem!_pos (A ++ ([x] ++ C)) _ (by simp), List.getElem_append_right (Nat.le_refl _)]
  simp
theorem maps_round {A X Y C : List E} {k : ByteArray} (hX : X = [] ∨ ∃ x, X = [x] ∧ x.key = k) (hY : Y = [] ∨ ∃ y, Y = [y] ∧ y.key = k) (hA : ∀ a ∈ A, cmpS a.key k < 0) (hC : ∀ b ∈ C, cmpS k b.key < 0) {t i : Nat}
    (hr : AtRel A.length X.length Y.length t i) (hi : i < (A ++ (X ++ C)).length) :
    ((A ++ (X ++ C))[i]!.key ≠ k ∧ t < (A ++ (Y ++ C)).length ∧ (A ++ (Y ++ C))[t]! = (A ++ (X ++ C))[i]! ∧ AtRel A.length X.length Y.length (t + 1) (i + 1)) ∨
    ((A ++ (X ++ C))[i]!.key = k ∧ AtRel A.length X.length Y.length t (i + 1)) ∨
    ((A ++ (X ++ C))[i]!.key ≠ k ∧ t + 1 < (A ++ (Y ++ C)).length ∧ (A ++ (Y ++ C))[t]!.key = k ∧ (A ++ (Y ++ C))[t + 1]! = (A ++ (X ++ C))[i]! ∧ AtRel A.length X.length Y.length (t + 2) (i + 1)) := by
  have h0 := cmpS_ord.self k
  have hCne : ∀ j, j < C.length → C[j]!.key ≠ k := fun j hj hc => by
    have := hC C[j]! (by rw [getElem!_pos C j hj]; exact List.getElem_mem hj)
    rw [hc] at this; omega
  simp only [List.length_append] at hi
  have hstart : ∀ j, i = A.length + X.length + j → t = A.length + Y.length + j → j < C.length → ((A ++ (X ++ C))[i]!.key ≠ k ∧ t < (A ++ (Y ++ C)).length ∧ (A ++ (Y ++ C))[t]! = (A ++ (X ++ C))[i]! ∧ AtRel A.length X.length Y.length (t + 1) (i + 1)) := by
    intro j h1 h2 h3
    subst h1; subst h2
    refine ⟨by rw [at3 h3]; exact hCne j h3, by simp only [List.length_append]; omega, by rw [at3 h3, at3 h3], .inr (.inr ⟨j + 1, by omega, by omega, by omega⟩)⟩
  rcases hr with ⟨h1, rfl⟩ | ⟨h1, rfl⟩ | ⟨j, h1, h2, h3⟩
  · by_cases hlt : t < A.length
    · left
      refine ⟨?_, by simp only [List.length_append]; omega, by rw [at1 hlt, at1 hlt], .inl ⟨by omega, rfl⟩⟩
      rw [at1 hlt]
      intro hc
      have := hA A[t]! (by rw [getElem!_pos A t hlt]; exact List.getElem_mem hlt)
      rw [hc] at this; omega
    · have hta : t = A.length := by omega
      subst hta
      rcases hX with rfl | ⟨x, rfl, hx⟩
      · rcases hY with rfl | ⟨y, rfl, hy⟩
        · left; exact hstart 0 (by simp) (by simp) (by simp at hi; omega)
        · right; right
          have hc : 0 < C.length := by simp at hi; omega
          have e1 := at3 (A := A) (X := []) (C := C) hc
          have e2 := at3 (A := A) (X := [y]) (C := C) hc
          simp only [List.length_nil, Nat.add_zero, List.length_singleton] at e1 e2
          refine ⟨by rw [e1]; exact hCne 0 hc, by simp only [List.length_append, List.length_singleton]; omega, by rw [at2]; exact hy, by rw [e1, e2], .inr (.inr ⟨1, by omega, by simp, by simp⟩)⟩
      · right; left
        exact ⟨by rw [at2]; exact hx, .inr (.inl ⟨by simp, rfl⟩)⟩
  · subst h1
    rcases hY with rfl | ⟨y, rfl, hy⟩
    · left; exact hstart 0 (by omega) (by simp) (by omega)
    · rcases hX with rfl | ⟨x, rfl, hx⟩
      · right; right
        have hc : 0 < C.length := by simp at hi; omega
        have e1 := at3 (A := A) (X := []) (C := C) hc
        have e2 := at3 (A := A) (X := [y]) (C := C) hc
        simp only [List.length_nil, Nat.add_zero, List.length_singleton] at e1 e2 ⊢
        refine ⟨by rw [e1]; exact hCne 0 hc, by simp only [List.length_append, List.length_singleton]; omega, by rw [at2]; exact hy, by rw [e1, e2], .inr (.inr ⟨1, by omega, by omega, by omega⟩)⟩
      · right; right
        have hc : 0 < C.length := by simp at hi; omega
        have e1 := at3 (A := A) (X := [x]) (C := C) hc
        have e2 := at3 (A := A) (X := [y]) (C := C) hc
        simp only [Nat.add_zero, List.length_singleton] at e1 e2 ⊢
        refine ⟨by rw [e1]; exact hCne 0 hc, by simp only [List.length_append, List.length_singleton]; omega, by rw [at2]; exact hy, by rw [e1, e2], .inr (.inr ⟨1, by omega, by omega, by omega⟩)⟩
  · left; exact hstart j h2 h3 (by omega)
end Go.Proofs.Yteemfhhhdhddhaa
