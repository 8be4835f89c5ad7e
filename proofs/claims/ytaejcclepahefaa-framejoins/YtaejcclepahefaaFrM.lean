/-
  Frames one behind the other: plain mathematics.
-/
import Derived.Test.YtaejcclepahefaaNext
namespace Go.Proofs.Ytaejcclepahefaa
open Go.RowKit
/-- The bodies of the frames with which bytes begin, and how many bytes these have. -/
def allF : Nat → List UInt8 → List (List UInt8) × Nat
  | 0, _ => ([], 0)
  | k + 1, bs => if (nextF bs).2.2 = 0 then ((nextF bs).1 :: (allF k (bs.drop (nextF bs).2.1)).1, (nextF bs).2.1 + (allF k (bs.drop (nextF bs).2.1)).2) else ([], 0)
theorem nextF_zero {bs : List UInt8} (h : (nextF bs).2.2 = 0) : (nextF bs).2.1 = 8 + (nextF bs).1.length ∧ 8 + (nextF bs).1.length ≤ bs.length ∧ (nextF bs).1.length ≤ 65536 := by
  unfold nextF at h ⊢
  split at h
  · simp at h
  · split at h
    · simp at h
    · split at h
      · simp at h
      · split at h
        · rename_i h1 h2 h3 h4
          rw [if_neg h1, if_neg h2, if_neg h3, if_pos h4]
          simp only [List.length_take, List.length_drop]
          omega
        · simp at h
theorem nextF_err (bs : List UInt8) : (nextF bs).2.2 = 0 ∨ (nextF bs).2.2 = 2 ∨ (nextF bs).2.2 = 5 := by
  unfold nextF
  repeat' split
  all_goals simp
theorem nextF_bad {bs : List UInt8} (h : (nextF bs).2.2 ≠ 0) : (nextF bs).1 = [] ∧ (nextF bs).2.1 = 0 := by
  unfold nextF at h ⊢
  repeat' split
  all_goals simp_all
theorem nextF_le (bs : List UInt8) : (nextF bs).1.length ≤ 65536 ∧ (nextF bs).2.1 ≤ 65544 := by
  by_cases h : (nextF bs).2.2 = 0
  · obtain ⟨a, b, c⟩ := nextF_zero h; omega
  · obtain ⟨a, b⟩ := nextF_bad h; rw [a, b]; simp
theorem allF_step {k : Nat} {bs : List UInt8} (h : (nextF bs).2.2 = 0) : allF (k + 1) bs = ((nextF bs).1 :: (allF k (bs.drop (nextF bs).2.1)).1, (nextF bs).2.1 + (allF k (bs.drop (nextF bs).2.1)).2) := by
  rw [allF, if_pos h]
theorem allF_stop {k : Nat} {bs : List UInt8} (h : (nextF bs).2.2 ≠ 0) : allF k bs = ([], 0) := by
  cases k with
  | zero => rfl
  | succ k => rw [allF, if_neg h]
theorem nextF_nil : (nextF []).2.2 = 5 := by unfold nextF; rw [if_pos (by simp)]
theorem allF_fuel : ∀ (k : Nat) (bs : List UInt8), bs.length ≤ k → allF (k + 1) bs = allF k bs := by
  intro k
  induction k with
  | zero =>
    intro bs h
    have : bs = [] := List.eq_nil_of_length_eq_zero (by omega)
    subst this
    rw [allF_stop (by rw [nextF_nil]; decide)]; rfl
  | succ k ih =>
    intro bs h
    by_cases he : (nextF bs).2.2 = 0
    · obtain ⟨h1, h2, -⟩ := nextF_zero he
      rw [allF_step he, allF_step he, ih _ (by rw [List.length_drop]; omega)]
    · rw [allF_stop he, allF_stop he]
theorem allF_more (bs : List UInt8) : ∀ (j k : Nat), bs.length ≤ k → allF (k + j) bs = allF k bs := by
  intro j
  induction j with
  | zero => intro k _; rfl
  | succ j ih => intro k h; rw [← Nat.add_assoc, allF_fuel _ _ (by omega), ih k h]
theorem allF_any (bs : List UInt8) (k m : Nat) (h1 : bs.length ≤ k) (h2 : bs.length ≤ m) : allF k bs = allF m bs := by
  obtain ⟨j, rfl⟩ : ∃ j, k = bs.length + j := ⟨k - bs.length, by omega⟩
  obtain ⟨i, rfl⟩ : ∃ j, m = bs.length + j := ⟨m - bs.length, by omega⟩
  rw [allF_more _ _ _ (Nat.le_refl _), allF_more _ _ _ (Nat.le_refl _)]
/-- All frames of bytes. -/
def framesB (bs : List UInt8) : List (List UInt8) := (allF bs.length bs).1
def endB (bs : List UInt8) : Nat := (allF bs.length bs).2
theorem frames_step {bs : List UInt8} (h : (nextF bs).2.2 = 0) : framesB bs = (nextF bs).1 :: framesB (bs.drop (nextF bs).2.1) ∧ endB bs = (nextF bs).2.1 + endB (bs.drop (nextF bs).2.1) := by
  obtain ⟨h1, h2, -⟩ := nextF_zero h
  obtain ⟨k, hk⟩ : ∃ k, bs.length = k + 1 := ⟨bs.length - 1, by omega⟩
  unfold framesB endB
  rw [hk, allF_step h, allF_any (bs.drop (nextF bs).2.1) k _ (by rw [List.length_drop]; omega) (Nat.le_refl _)]
  exact ⟨rfl, rfl⟩
theorem frames_stop {bs : List UInt8} (h : (nextF bs).2.2 ≠ 0) : framesB bs = [] ∧ endB bs = 0 := by
  unfold framesB endB; rw [allF_stop h]; exact ⟨rfl, rfl⟩
theorem endB_sum : ∀ (k : Nat) (bs : List UInt8), bs.length ≤ k → endB bs = ((framesB bs).map fun b => 8 + b.length).sum ∧ endB bs ≤ bs.length ∧ (nextF (bs.drop (endB bs))).2.2 ≠ 0 := by
  intro k
  induction k with
  | zero =>
    intro bs h
    have : bs = [] := List.eq_nil_of_length_eq_zero (by omega)
    subst this
    obtain ⟨h1, h2⟩ := frames_stop (bs := []) (by rw [nextF_nil]; decide)
    rw [h1, h2]; exact ⟨rfl, Nat.le_refl _, by rw [List.drop_nil, nextF_nil]; decide⟩
  | succ k ih =>
    intro bs h
    by_cases he : (nextF bs).2.2 = 0
    · obtain ⟨h1, h2, -⟩ := nextF_zero he
      obtain ⟨e1, e2⟩ := frames_step he
      obtain ⟨i1, i2, i3⟩ := ih (bs.drop (nextF bs).2.1) (by rw [List.length_drop]; omega)
      rw [List.length_drop] at i2
      rw [e1, e2]
      refine ⟨by rw [List.map_cons, List.sum_cons, ← i1, h1], by omega, ?_⟩
      rw [← List.drop_drop]; exact i3
    · obtain ⟨h1, h2⟩ := frames_stop he
      rw [h1, h2]; exact ⟨rfl, by omega, by simpa using he⟩
theorem sum_ge : ∀ (l : List (List UInt8)), l.length * 8 ≤ (l.map fun b => 8 + b.length).sum
  | [] => by simp
  | b :: t => by have := sum_ge t; simp only [List.length_cons, List.map_cons, List.sum_cons]; omega
theorem frames_few (bs : List UInt8) : (framesB bs).length * 8 ≤ bs.length := by
  obtain ⟨h1, h2, -⟩ := endB_sum bs.length bs (Nat.le_refl _)
  have := sum_ge (framesB bs)
  omega
/-- What All says of the rest. -/
def restE (bs : List UInt8) : Nat := if endB bs = bs.length then 0 else (nextF (bs.drop (endB bs))).2.2
end Go.Proofs.Ytaejcclepahefaa
