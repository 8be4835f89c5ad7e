/-
  Plain mathematics of the numbers of layer 1, without any program: the bytes of a number, what bytes tell, how many bytes there are.
-/
import Derived.Lib.BitFns
namespace Go.Proofs.Ytlomimhildbkoaa

/-- The bytes of v, by sevens (fuel: how many may follow the first one). -/
def enc : Nat → Nat → List UInt8
  | 0, v => [UInt8.ofNat v]
  | f + 1, v => if v < 128 then [UInt8.ofNat v] else UInt8.ofNat (v % 128 + 128) :: enc f (v / 128)

def putB (v : Nat) : List UInt8 := enc 9 v

/-- What bytes tell, from place i on, x gathered so far. -/
def getF (i x : Nat) : List UInt8 → Nat × Nat × Bool
  | [] => (0, 0, false)
  | c :: cs =>
    if i = 9 ∧ 1 < c.toNat then (0, 0, false)
    else if 128 ≤ c.toNat then getF (i + 1) (x + c.toNat % 128 * 128 ^ i) cs
    else if c.toNat = 0 ∧ 0 < i then (0, 0, false)
    else (x + c.toNat % 128 * 128 ^ i, i + 1, true)

def getB (bs : List UInt8) : Nat × Nat × Bool := getF 0 0 bs

theorem enc_ne (f v : Nat) : enc f v ≠ [] := by
  cases f <;> simp [enc]
  split <;> simp

theorem enc_pos (f v : Nat) : 1 ≤ (enc f v).length := by
  have := List.length_pos_iff.2 (enc_ne f v)
  omega

theorem enc_le : ∀ (f v : Nat), (enc f v).length ≤ f + 1
  | 0, v => by simp [enc]
  | f + 1, v => by
    unfold enc
    split
    · simp
    · have := enc_le f (v / 128)
      simp; omega

theorem putB_le (v : Nat) : (putB v).length ≤ 10 := enc_le 9 v
theorem putB_pos (v : Nat) : 1 ≤ (putB v).length := enc_pos 9 v

theorem enc_fuel : ∀ (f v : Nat), v < 128 ^ (f + 1) → enc (f + 1) v = enc f v
  | 0, v, h => by
    have : v < 128 := by simpa using h
    simp [enc, this]
  | f + 1, v, h => by
    rw [enc]
    split
    · rename_i h1; simp [enc, h1]
    · rename_i h1
      have h2 : v / 128 < 128 ^ (f + 1) := by
        rw [Nat.pow_succ] at h
        exact Nat.div_lt_of_lt_mul (by rw [Nat.mul_comm]; exact h)
      rw [enc_fuel f (v / 128) h2]
      simp [enc, h1]

theorem putB_small (v : Nat) (h : v < 128) : putB v = [UInt8.ofNat v] := by simp [putB, enc, h]
theorem putB_more (v : Nat) (h : 128 ≤ v) (h2 : v < 18446744073709551616) : putB v = UInt8.ofNat (v % 128 + 128) :: putB (v / 128) := by
  have e : putB (v / 128) = enc 8 (v / 128) := enc_fuel 8 (v / 128) (by simp; omega)
  rw [e, putB, enc, if_neg (by omega)]

theorem toNat_ofNat (v : Nat) (h : v < 256) : (UInt8.ofNat v).toNat = v := by
  simp [UInt8.toNat_ofNat']
  omega

theorem get_enc_gen : ∀ (f i x v : Nat) (more : List UInt8), i + f = 9 → v < 2 * 128 ^ f → (i = 0 ∨ v ≠ 0) →
    getF i x (enc f v ++ more) = (x + v * 128 ^ i, i + (enc f v).length, true)
  | 0, i, x, v, more, hi, hv, h0 => by
    have hi9 : i = 9 := by omega
    subst hi9
    have hv2 : v < 2 := by simpa using hv
    have e := toNat_ofNat v (by omega)
    have hne : v ≠ 0 := by omega
    have h1 : ¬ (9 = 9 ∧ 1 < (UInt8.ofNat v).toNat) := by rw [e]; omega
    have h2 : ¬ (128 ≤ (UInt8.ofNat v).toNat) := by rw [e]; omega
    have h3 : ¬ ((UInt8.ofNat v).toNat = 0 ∧ 0 < 9) := by rw [e]; omega
    rw [enc, List.singleton_append, getF, if_neg h1, if_neg h2, if_neg h3, e, Nat.mod_eq_of_lt (by omega)]
    rfl
  | f + 1, i, x, v, more, hi, hv, h0 => by
    by_cases hs : v < 128
    · have e := toNat_ofNat v (by omega)
      have h1 : ¬ (i = 9 ∧ 1 < (UInt8.ofNat v).toNat) := by omega
      have h2 : ¬ (128 ≤ (UInt8.ofNat v).toNat) := by rw [e]; omega
      have h3 : ¬ ((UInt8.ofNat v).toNat = 0 ∧ 0 < i) := by rw [e]; omega
      rw [enc, if_pos hs, List.singleton_append, getF, if_neg h1, if_neg h2, if_neg h3, e, Nat.mod_eq_of_lt (by omega)]
      rfl
    · have e := toNat_ofNat (v % 128 + 128) (by omega)
      have h1 : ¬ (i = 9 ∧ 1 < (UInt8.ofNat (v % 128 + 128)).toNat) := by omega
      have h2 : 128 ≤ (UInt8.ofNat (v % 128 + 128)).toNat := by rw [e]; omega
      have hq : v / 128 < 2 * 128 ^ f := by
        rw [Nat.pow_succ] at hv
        exact Nat.div_lt_of_lt_mul (by rw [Nat.mul_comm 128, Nat.mul_assoc]; exact hv)
      have ih := get_enc_gen f (i + 1) (x + (v % 128 + 128) % 128 * 128 ^ i) (v / 128) more (by omega) hq (.inr (by omega))
      rw [enc, if_neg hs, List.cons_append, getF, if_neg h1, if_pos h2, e, ih]
      have hm : (v % 128 + 128) % 128 = v % 128 := by omega
      have hval : x + (v % 128 + 128) % 128 * 128 ^ i + v / 128 * 128 ^ (i + 1) = x + v * 128 ^ i := by
        rw [hm, Nat.pow_succ, Nat.mul_comm (128 ^ i) 128, ← Nat.mul_assoc, Nat.add_assoc, ← Nat.add_mul]
        congr 2
        omega
      rw [hval, List.length_cons]
      congr 2
      omega

/-- What is put is got. -/
theorem getB_putB (v : Nat) (hv : v < 18446744073709551616) (more : List UInt8) : getB (putB v ++ more) = (v, (putB v).length, true) := by
  have h := get_enc_gen 9 0 0 v more (by omega) (by omega) (.inl rfl)
  simpa [getB, putB] using h

/-- Bytes that tell a number are the bytes of that number; no beginning of them tells one. -/
theorem get_once_gen : ∀ (l : List UInt8) (i x v n : Nat), i ≤ 9 → getF i x l = (v, n, true) →
    ∃ u, v = x + u * 128 ^ i ∧ u < 2 * 128 ^ (9 - i) ∧ i < n ∧ n ≤ i + l.length ∧ l.take (n - i) = enc (9 - i) u ∧ (0 < i → u ≠ 0) ∧
      ∀ j, j < n - i → getF i x (l.take j) = (0, 0, false)
  | [], i, x, v, n, hi, h => by simp [getF] at h
  | c :: cs, i, x, v, n, hi, h => by
    have hc : c.toNat < 256 := c.toNat_lt
    rw [getF] at h
    split at h
    · simp at h
    · rename_i h1
      split at h
      · rename_i h2
        have hi8 : i ≤ 8 := by omega
        obtain ⟨u, hv, hu, hn, hl, ht, hz, hj⟩ := get_once_gen cs (i + 1) _ v n (by omega) h
        have hu0 := hz (by omega)
        have e9 : 9 - i = (9 - (i + 1)) + 1 := by omega
        have hdiv : (c.toNat % 128 + u * 128) / 128 = u := by omega
        have hmod : (c.toNat % 128 + u * 128) % 128 + 128 = c.toNat := by omega
        refine ⟨c.toNat % 128 + u * 128, ?_, ?_, by omega, by simp; omega, ?_, fun _ => by omega, ?_⟩
        · rw [hv, Nat.pow_succ, Nat.mul_comm (128 ^ i) 128, ← Nat.mul_assoc, Nat.add_assoc, ← Nat.add_mul]
        · rw [e9, Nat.pow_succ, ← Nat.mul_assoc]; omega
        · rw [e9, enc, if_neg (by omega), hdiv, hmod, ← ht]
          have : n - i = (n - (i + 1)) + 1 := by omega
          rw [this, List.take_succ_cons]
          congr 1
          exact (UInt8.ofNat_toNat (x := c)).symm
        · intro j hj'
          cases j with
          | zero => simp [getF]
          | succ j =>
            rw [List.take_succ_cons, getF, if_neg h1, if_pos h2]
            exact hj j (by omega)
      · rename_i h2
        split at h
        · simp at h
        · rename_i h3
          simp only [Prod.mk.injEq, and_true] at h
          obtain ⟨hv, hn⟩ := h
          have hcm : c.toNat % 128 = c.toNat := Nat.mod_eq_of_lt (by omega)
          refine ⟨c.toNat, by rw [← hv, hcm], ?_, by omega, by simp; omega, ?_, fun hi0 hz => h3 ⟨hz, hi0⟩, ?_⟩
          · by_cases hi9 : i = 9
            · subst hi9; simp; omega
            · have : 128 ^ 1 ≤ 128 ^ (9 - i) := Nat.pow_le_pow_right (by omega) (by omega)
              simp only [Nat.pow_one] at this
              omega
          · have hn1 : n - i = 1 := by omega
            rw [hn1]
            have hc' : UInt8.ofNat c.toNat = c := UInt8.ofNat_toNat (x := c)
            cases hf : 9 - i with
            | zero => simp [enc, hc']
            | succ f => simp [enc, hc', show c.toNat < 128 by omega]
          · intro j hj'
            have : j = 0 := by omega
            subst this
            simp [getF]

theorem getB_once (l : List UInt8) (v n : Nat) (h : getB l = (v, n, true)) :
    v < 18446744073709551616 ∧ 1 ≤ n ∧ n ≤ l.length ∧ l.take n = putB v ∧ ∀ j, j < n → getB (l.take j) = (0, 0, false) := by
  obtain ⟨u, hv, hu, hn, hl, ht, _, hj⟩ := get_once_gen l 0 0 v n (by omega) h
  have e : v = u := by simpa using hv
  subst e
  exact ⟨by simpa using hu, by omega, by omega, by simpa [putB] using ht, fun j hj' => hj j (by omega)⟩

/-- Where there is no number all is zero. -/
theorem getF_no : ∀ (l : List UInt8) (i x v n : Nat), getF i x l = (v, n, false) → v = 0 ∧ n = 0
  | [], i, x, v, n, h => by simp [getF] at h; omega
  | c :: cs, i, x, v, n, h => by
    rw [getF] at h
    split at h
    · simp at h; omega
    · split at h
      · exact getF_no cs _ _ v n h
      · split at h
        · simp at h; omega
        · simp at h

theorem getB_no (l : List UInt8) (v n : Nat) (h : getB l = (v, n, false)) : v = 0 ∧ n = 0 := getF_no l 0 0 v n h

/-! ### How many bytes -/
def sz (v : Nat) : Nat := (putB v).length
theorem sz_small (v : Nat) (h : v < 128) : sz v = 1 := by simp [sz, putB_small v h]
theorem sz_more (v : Nat) (h : 128 ≤ v) (h2 : v < 18446744073709551616) : sz v = sz (v / 128) + 1 := by simp [sz, putB_more v h h2]

theorem enc_mono : ∀ (f v w : Nat), v ≤ w → (enc f v).length ≤ (enc f w).length
  | 0, v, w, _ => by simp [enc]
  | f + 1, v, w, h => by
    by_cases hv : v < 128
    · have := enc_pos (f + 1) w
      simp [enc, hv] at this ⊢
      exact this
    · have hw : ¬ w < 128 := by omega
      simp only [enc, hv, hw, if_false, List.length_cons]
      have := enc_mono f (v / 128) (w / 128) (Nat.div_le_div_right h)
      omega
theorem sz_mono (v w : Nat) (h : v ≤ w) : sz v ≤ sz w := enc_mono 9 v w h
theorem sz_pos (v : Nat) : 1 ≤ sz v := putB_pos v
theorem sz_le (v : Nat) : sz v ≤ 10 := putB_le v

theorem or_one_div (x : Nat) : (x ||| 1) / 2 = x / 2 := by
  have := @Nat.shiftRight_or_distrib 1 x 1
  simpa [Nat.shiftRight_eq_div_pow] using this
theorem or_one_lt (x : Nat) (h : x < 18446744073709551616) : x ||| 1 < 18446744073709551616 := Nat.or_lt_two_pow (n := 64) h (by decide)
theorem or_one_ne (x : Nat) : x ||| 1 ≠ 0 := by
  intro h
  have := Nat.right_le_or (n := x) (m := 1)
  omega

theorem bitLen_or (x : Nat) (h : x < 18446744073709551616) : Lib.bitLen (x ||| 1) = 1 + Lib.bitLen (x / 2) := by
  rw [Lib.bitLen_half _ (or_one_ne x) (or_one_lt x h), or_one_div]

theorem bitLen_128 (x : Nat) (h : 128 ≤ x) (h2 : x < 18446744073709551616) : Lib.bitLen (x ||| 1) = 7 + Lib.bitLen (x / 128 ||| 1) := by
  have h3 := Lib.bitLen_shift 6 (x / 2) (by omega) (by omega)
  have h4 : x / 2 / 2 ^ 6 = x / 128 := by omega
  have h5 := Lib.bitLen_half (x / 128) (by omega) (by omega)
  rw [h4] at h3
  rw [bitLen_or x h2, bitLen_or (x / 128) (by omega), h3, h5]
  omega

theorem bitLen_small (x : Nat) (h : x < 128) : 1 ≤ Lib.bitLen (x ||| 1) ∧ Lib.bitLen (x ||| 1) ≤ 7 := by
  rw [bitLen_or x (by omega)]
  have := Lib.bitLen_le (x / 2) 6 (by omega) (by omega)
  omega

theorem sz_bits : ∀ (f v : Nat), v < 128 ^ f → v < 18446744073709551616 → (Lib.bitLen (v ||| 1) + 6) / 7 = sz v
  | 0, v, h, _ => by
    have : v = 0 := by simpa using h
    subst this
    decide
  | f + 1, v, h, h2 => by
    by_cases hs : v < 128
    · have := bitLen_small v hs
      rw [sz_small v hs]; omega
    · rw [bitLen_128 v (by omega) h2, sz_more v (by omega) h2, ← sz_bits f (v / 128) (Nat.div_lt_of_lt_mul (by rw [Nat.mul_comm, ← Nat.pow_succ]; exact h)) (by omega)]
      omega

end Go.Proofs.Ytlomimhildbkoaa
