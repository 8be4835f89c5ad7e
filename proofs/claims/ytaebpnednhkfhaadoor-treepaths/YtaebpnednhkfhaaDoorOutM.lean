/-
  The parts of a tree beside a row of leaves: plain mathematics, and what tree.span's apart and within answer.
-/
import Derived.Test.YtaebpnednhkfhaaDoorPartE
namespace Go.Proofs.YtaebpnednhkfhaaDoor
open Go.RowKit
/-- Halves of at most 2^(k+1) leaves have at most 2^k. -/
theorem halfN_le (n k : Nat) (h2 : 2 ≤ n) (hn : n ≤ 9223372036854775807) (hk : n ≤ 2 ^ (k + 1)) : halfN n ≤ 2 ^ k ∧ n - halfN n ≤ 2 ^ k := by
  obtain ⟨s1, s2, s3, s4, s5⟩ := halfN_spec n h2 hn
  have h1 : halfN n ≤ 2 ^ k := by
    unfold halfN at *
    generalize Lib.bitLen (n - 1) - 1 = j at *
    by_cases hjk : j ≤ k
    · exact Nat.pow_le_pow_right (by omega) hjk
    · have : 2 ^ (k + 1) ≤ 2 ^ j := Nat.pow_le_pow_right (by omega) (by omega)
      omega
  refine ⟨h1, ?_⟩
  omega
/-- The greatest parts of the leaves from a to b - 1 that have none of those from c to d - 1. -/
def outF : Nat → Nat → Nat → Nat → Nat → List (Nat × Nat)
  | 0, _, _, _, _ => []
  | f + 1, a, b, c, d => if b ≤ c ∨ d ≤ a then [(a, b)] else if c ≤ a ∧ b ≤ d then [] else outF f a (a + halfN (b - a)) c d ++ outF f (a + halfN (b - a)) b c d
def outL (a b c d : Nat) : List (Nat × Nat) := outF 64 a b c d
theorem out_one {a b c d : Nat} (h : b - a ≤ 1) (hab : a < b) (_hcd : c < d) (h1 : ¬ (b ≤ c ∨ d ≤ a)) : c ≤ a ∧ b ≤ d := by omega
theorem outF_fuel (c d : Nat) (hcd : c < d) : ∀ (k f g a b : Nat), b - a ≤ 2 ^ k → k < f → k < g → a < b → b ≤ 9223372036854775807 → outF f a b c d = outF g a b c d := by
  intro k
  induction k with
  | zero =>
    intro f g a b hk hf hg hab _
    obtain ⟨f, rfl⟩ : ∃ f', f = f' + 1 := ⟨f - 1, by omega⟩
    obtain ⟨g, rfl⟩ : ∃ g', g = g' + 1 := ⟨g - 1, by omega⟩
    rw [outF, outF]
    by_cases h1 : b ≤ c ∨ d ≤ a
    · rw [if_pos h1, if_pos h1]
    · rw [if_neg h1, if_neg h1, if_pos (out_one (by simpa using hk) hab hcd h1), if_pos (out_one (by simpa using hk) hab hcd h1)]
  | succ k ih =>
    intro f g a b hk hf hg hab hb
    obtain ⟨f, rfl⟩ : ∃ f', f = f' + 1 := ⟨f - 1, by omega⟩
    obtain ⟨g, rfl⟩ : ∃ g', g = g' + 1 := ⟨g - 1, by omega⟩
    rw [outF, outF]
    by_cases h1 : b ≤ c ∨ d ≤ a
    · rw [if_pos h1, if_pos h1]
    · rw [if_neg h1, if_neg h1]
      by_cases h2 : c ≤ a ∧ b ≤ d
      · rw [if_pos h2, if_pos h2]
      · rw [if_neg h2, if_neg h2]
        have h3 : 2 ≤ b - a := by
          rcases Nat.lt_or_ge (b - a) 2 with h | h
          · exact absurd (out_one (by omega) hab hcd h1) h2
          · exact h
        obtain ⟨l1, l2⟩ := halfN_le (b - a) k h3 (by omega) hk
        obtain ⟨s1, s2, -, -, -⟩ := halfN_spec (b - a) h3 (by omega)
        rw [ih f g a (a + halfN (b - a)) (by omega) (by omega) (by omega) (by omega) (by omega), ih f g (a + halfN (b - a)) b (by omega) (by omega) (by omega) (by omega) hb]
theorem pow63 : (9223372036854775807 : Nat) ≤ 2 ^ 63 := by decide
/-- Where neither holds, the parts of both halves. -/
theorem outL_two {a b c d : Nat} (hcd : c < d) (hab : a < b) (hb : b ≤ 9223372036854775807) (h1 : ¬ (b ≤ c ∨ d ≤ a)) (h2 : ¬ (c ≤ a ∧ b ≤ d)) : 2 ≤ b - a ∧ outL a b c d = outL a (a + halfN (b - a)) c d ++ outL (a + halfN (b - a)) b c d := by
  have h3 : 2 ≤ b - a := by
    rcases Nat.lt_or_ge (b - a) 2 with h | h
    · exact absurd (out_one (by omega) hab hcd h1) h2
    · exact h
  refine ⟨h3, ?_⟩
  have hp := pow63
  obtain ⟨l1, l2⟩ := halfN_le (b - a) 62 h3 (by omega) (by have : (2 : Nat) ^ (62 + 1) = 2 ^ 63 := rfl; omega)
  obtain ⟨s1, s2, -, -, -⟩ := halfN_spec (b - a) h3 (by omega)
  unfold outL
  rw [outF, if_neg h1, if_neg h2, outF_fuel c d hcd 62 63 64 a (a + halfN (b - a)) (by omega) (by omega) (by omega) (by omega) (by omega), outF_fuel c d hcd 62 63 64 (a + halfN (b - a)) b (by omega) (by omega) (by omega) (by omega) hb]
theorem outL_apart {a b c d : Nat} (h1 : b ≤ c ∨ d ≤ a) : outL a b c d = [(a, b)] := by unfold outL; rw [outF, if_pos h1]
theorem outL_within {a b c d : Nat} (h1 : ¬ (b ≤ c ∨ d ≤ a)) (h2 : c ≤ a ∧ b ≤ d) : outL a b c d = [] := by unfold outL; rw [outF, if_neg h1, if_pos h2]
/-- Parts are few: beside one end at most as many as it takes to halve, beside both at most twice. -/
theorem outL_few (c d : Nat) (hcd : c < d) : ∀ (k a b : Nat), b - a ≤ 2 ^ k → a < b → b ≤ 9223372036854775807 → (¬ (b ≤ c ∨ d ≤ a) → (c ≤ a ∨ b ≤ d) → (outL a b c d).length ≤ k) ∧ (¬ (b ≤ c ∨ d ≤ a) → (outL a b c d).length ≤ 2 * k) ∧ (outL a b c d).length ≤ 2 * k + 1 := by
  intro k
  induction k with
  | zero =>
    intro a b hk hab _
    by_cases h1 : b ≤ c ∨ d ≤ a
    · rw [outL_apart h1]; exact ⟨fun h => absurd h1 h, fun h => absurd h1 h, by simp⟩
    · rw [outL_within h1 (out_one (by simpa using hk) hab hcd h1)]; simp
  | succ k ih =>
    intro a b hk hab hb
    by_cases h1 : b ≤ c ∨ d ≤ a
    · rw [outL_apart h1]; exact ⟨fun h => absurd h1 h, fun h => absurd h1 h, by simp⟩
    · by_cases h2 : c ≤ a ∧ b ≤ d
      · rw [outL_within h1 h2]; simp
      · obtain ⟨h3, h4⟩ := outL_two hcd hab hb h1 h2
        obtain ⟨l1, l2⟩ := halfN_le (b - a) k h3 (by omega) hk
        obtain ⟨s1, s2, -, -, -⟩ := halfN_spec (b - a) h3 (by omega)
        generalize halfN (b - a) = h at *
        obtain ⟨x1, x2, x3⟩ := ih a (a + h) (by omega) (by omega) (by omega)
        obtain ⟨y1, y2, y3⟩ := ih (a + h) b (by omega) (by omega) hb
        rw [h4, List.length_append]
        have one : ∀ x y, outL x y c d = [(x, y)] → (outL x y c d).length = 1 := fun x y e => by rw [e]; rfl
        have zero : ∀ x y, outL x y c d = [] → (outL x y c d).length = 0 := fun x y e => by rw [e]; rfl
        have key : ¬ (b ≤ c ∨ d ≤ a) → (outL a (a + h) c d).length + (outL (a + h) b c d).length ≤ 2 * (k + 1) := by
          intro _
          by_cases p1 : a + h ≤ c ∨ d ≤ a
          · have := one _ _ (outL_apart p1)
            by_cases p2 : b ≤ c ∨ d ≤ a + h
            · have := one _ _ (outL_apart p2); omega
            · have := y2 p2; omega
          · by_cases p2 : b ≤ c ∨ d ≤ a + h
            · have := one _ _ (outL_apart p2)
              have := x2 p1; omega
            · have := x1 p1 (by omega)
              have := y1 p2 (by omega)
              omega
        refine ⟨?_, key, by have := key h1; omega⟩
        intro _ hs
        by_cases p1 : a + h ≤ c ∨ d ≤ a
        · have e1 := one _ _ (outL_apart p1)
          by_cases p2 : b ≤ c ∨ d ≤ a + h
          · exfalso; omega
          · have := y1 p2 (by omega); omega
        · by_cases p2 : b ≤ c ∨ d ≤ a + h
          · have e2 := one _ _ (outL_apart p2)
            have := x1 p1 (by omega); omega
          · rcases hs with hs | hs
            · have := zero _ _ (outL_within p1 (by omega))
              have := y1 p2 (by omega); omega
            · have := zero _ _ (outL_within p2 (by omega))
              have := x1 p1 (by omega); omega
theorem outL_len {a b c d : Nat} (hcd : c < d) (hab : a < b) (hb : b ≤ 9223372036854775807) : (outL a b c d).length ≤ 127 := by
  have := (outL_few c d hcd 63 a b (by have := pow63; omega) hab hb).2.2
  omega
/-! ### the program -/
theorem le_zz {a b : Nat} : ((a : Int) ≤ (b : Int)) ↔ a ≤ b := by omega
set_option maxHeartbeats 1000000 in
set_option maxRecDepth 100000 in
theorem apart_any (a b c d : Nat) (w : World) : Calls Tryd.prog 85 #[sv a b, sv c d] w fun e w' => e = .returned (.bool (decide (b ≤ c ∨ d ≤ a))) ∧ Below w.heap.size w w' := by
  unfold sv
  by_cases h1 : b ≤ c
  · have h1z : (b : Int) ≤ (c : Int) := by omega
    rw [decide_eq_true (Or.inl h1)]
    clear h1
    go_enter Tryd.func85, Tryd.ntmps85
    go_wp2
    go_ret
    exact ⟨rfl, (bel_alloc w _).trans ((bel_alloc _ _).mono (by simp))⟩
  · have h1z : ¬ (b : Int) ≤ (c : Int) := by omega
    have h1d : decide ((b : Int) ≤ (c : Int)) = false := by simp; omega
    have h1n : decide (b ≤ c) = false := by simp; omega
    have HR : Hid (decide (b ≤ c ∨ d ≤ a) = decide (d ≤ a)) := by show _ = _; simp [h1]
    rw [HR.out]
    clear h1
    go_enter Tryd.func85, Tryd.ntmps85
    go_wp2
    go_ret
    exact ⟨by first | rfl | simp, (bel_alloc w _).trans ((bel_alloc _ _).mono (by simp))⟩
set_option maxHeartbeats 1000000 in
set_option maxRecDepth 100000 in
theorem within_any (a b c d : Nat) (w : World) : Calls Tryd.prog 86 #[sv a b, sv c d] w fun e w' => e = .returned (.bool (decide (c ≤ a ∧ b ≤ d))) ∧ Below w.heap.size w w' := by
  unfold sv
  by_cases h1 : c ≤ a
  · have h1z : (c : Int) ≤ (a : Int) := by omega
    have HR : Hid (decide (c ≤ a ∧ b ≤ d) = decide (b ≤ d)) := by show _ = _; simp [h1]
    rw [HR.out]
    clear h1
    go_enter Tryd.func86, Tryd.ntmps86
    go_wp2
    go_ret
    exact ⟨by first | rfl | simp, (bel_alloc w _).trans ((bel_alloc _ _).mono (by simp))⟩
  · have h1z : ¬ (c : Int) ≤ (a : Int) := by omega
    have h1d : decide ((c : Int) ≤ (a : Int)) = false := by simp; omega
    have h1n : decide (c ≤ a) = false := by simp; omega
    have HR : Hid (decide (c ≤ a ∧ b ≤ d) = false) := by show _ = _; simp [h1]
    rw [HR.out]
    clear h1
    go_enter Tryd.func86, Tryd.ntmps86
    go_wp2
    go_ret
    exact ⟨rfl, (bel_alloc w _).trans ((bel_alloc _ _).mono (by simp))⟩
end Go.Proofs.YtaebpnednhkfhaaDoor
