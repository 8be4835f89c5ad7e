/-
  The parts of a split list: how long they are, and what they make together.
-/
import Derived.Test.YteggjenncmjfmaaMgX
namespace Go.Proofs.Yteggjenncmjfmaa
open Go.RowKit
set_option linter.unusedSectionVars false
set_option linter.unusedVariables false
variable [Inhabited E] [DecidableEq E] [Inhabited RV]
theorem splitN_at : ∀ (k : Nat) (l : List E) (q r i : Nat), r < k → l.length = q * k + r → i < k → ((splitN k l)[i]!).length = q + if i < r then 1 else 0
  | 0, _, _, _, _, h, _, _ => absurd h (Nat.not_lt_zero _)
  | k + 1, l, q, r, i, hr, hl, hi => by
    have hu : upN l.length (k + 1) = q + if 0 < r then 1 else 0 := by rw [hl, upN_qr q (k + 1) r hr]
    have hq : q * (k + 1) = q * k + q := by rw [Nat.mul_add, Nat.mul_one]
    rw [splitN, hu]
    cases i with
    | zero =>
      show (l.take _).length = _
      rw [List.length_take]
      split <;> omega
    | succ i =>
      have h1 := splitN_at k (l.drop (q + if 0 < r then 1 else 0)) q (r - 1) i (by omega) (by rw [List.length_drop]; split <;> omega) (by omega)
      rw [List.getElem!_cons_succ, h1]
      by_cases h : i + 1 < r
      · rw [if_pos h, if_pos (by omega)]
      · rw [if_neg h, if_neg (by omega)]
theorem splitN_flat : ∀ (k : Nat) (l : List E), (0 < k ∨ l = []) → (splitN k l).flatten = l
  | 0, l, h => by rcases h with h | rfl; exact absurd h (Nat.lt_irrefl 0); rfl
  | k + 1, l, _ => by
    rw [splitN, List.flatten_cons]
    by_cases hk : k = 0
    · subst hk
      have : upN l.length (0 + 1) = l.length := by unfold upN; simp
      rw [this, List.take_length, splitN]; simp
    · rw [splitN_flat k _ (.inl (by omega)), List.take_append_drop]
theorem splitL_flat (l : List E) : (splitL l).flatten = l := by
  refine splitN_flat _ l ?_
  by_cases h : l.length = 0
  · exact .inr (List.eq_nil_of_length_eq_zero h)
  · left; unfold upN; omega
theorem splitL_len (l : List E) : (splitL l).length = upN l.length 64 := splitN_len _ _
/-- The four things that the law asks of each part's length. -/
theorem splitL_lens (l : List E) (i : Nat) (hi : i < (splitL l).length) : 1 ≤ (splitL l)[i]!.length ∧ (splitL l)[i]!.length ≤ 64 ∧ (splitL l)[i]!.length ≤ (splitL l)[0]!.length ∧ (splitL l)[0]!.length ≤ (splitL l)[i]!.length + 1 ∧ ∀ j, i = j + 1 → (splitL l)[i]!.length ≤ (splitL l)[j]!.length := by
  obtain ⟨n, hn⟩ : ∃ n, l.length = n := ⟨_, rfl⟩
  have hlen := splitL_len l
  rw [hn] at hlen
  obtain ⟨k, hk⟩ : ∃ k, upN n 64 = k := ⟨_, rfl⟩
  rw [hk] at hlen
  have hkn : n ≤ 64 * k ∧ k ≤ n := by unfold upN at hk; omega
  have hk0 : 0 < k := by omega
  have hat : ∀ j, j < k → (splitL l)[j]!.length = n / k + if j < n % k then 1 else 0 := fun j hj => by
    unfold splitL
    rw [hn, hk]
    exact splitN_at k l (n / k) (n % k) j (Nat.mod_lt _ hk0) (by rw [hn, Nat.mul_comm]; exact (Nat.div_add_mod n k).symm) hj
  have hq : 1 ≤ n / k := Nat.div_pos hkn.2 hk0
  have h64 : n / k ≤ 64 := Nat.div_le_of_le_mul (by omega)
  have hr64 : n / k = 64 → n % k = 0 := fun h => by
    have := Nat.div_add_mod n k
    rw [h] at this
    omega
  rw [hat i (by omega), hat 0 hk0]
  refine ⟨by omega, ?_, ?_, ?_, fun j hj => ?_⟩
  · by_cases h : i < n % k
    · rw [if_pos h]
      by_cases h2 : n / k = 64
      · have := hr64 h2; omega
      · omega
    · rw [if_neg h]; omega
  · split <;> split <;> omega
  · split <;> split <;> omega
  · subst hj
    rw [hat j (by omega)]
    split <;> split <;> omega
end Go.Proofs.Yteggjenncmjfmaa
