/-
  The check of bytes of which up to 32 bits that stand together are turned is another one. No program.
-/
import Derived.Test.YtdlkaeegcagkpaaDoorOf
namespace Go.Proofs.YtdlkaeegcagkpaaDoor
theorem u32_ext {a b : UInt32} (h : ∀ i, i < 32 → a.toBitVec.getLsbD i = b.toBitVec.getLsbD i) : a = b := by
  apply UInt32.eq_of_toBitVec_eq
  apply BitVec.eq_of_getLsbD_eq
  intro i hi; exact h i hi
theorem neg_low (c : UInt32) (i : Nat) (hi : i < 32) : (-(c &&& 1)).toBitVec.getLsbD i = c.toBitVec.getLsbD 0 := by
  have h : c &&& 1 = 0 ∨ c &&& 1 = 1 := by
    have : (c &&& 1).toNat = c.toNat % 2 := by rw [UInt32.toNat_and]; exact Nat.and_one_is_mod _
    rcases Nat.mod_two_eq_zero_or_one c.toNat with h | h
    · left; apply UInt32.toNat_inj.1; rw [this, h]; rfl
    · right; apply UInt32.toNat_inj.1; rw [this, h]; rfl
  have h0 : c.toBitVec.getLsbD 0 = (c &&& 1).toBitVec.getLsbD 0 := by simp
  rw [h0]
  rcases h with h | h
  · rw [h]; simp
  · rw [h]
    have : (-1 : UInt32).toBitVec = BitVec.allOnes 32 := by decide
    rw [this, BitVec.getLsbD_allOnes]
    simp [hi]
theorem step_bit (c : UInt32) (i : Nat) (hi : i < 32) : (crcStep c).toBitVec.getLsbD i = (c.toBitVec.getLsbD (i + 1) ^^ ((0xedb88320#32).getLsbD i && c.toBitVec.getLsbD 0)) := by
  have h1 : (c >>> 1).toBitVec.getLsbD i = c.toBitVec.getLsbD (i + 1) := by
    rw [UInt32.toBitVec_shiftRight]; 
    show (c.toBitVec >>> (1 : BitVec 32)).getLsbD i = _
    simp [Nat.add_comm]
  rw [crcStep, UInt32.toBitVec_xor, BitVec.getLsbD_xor, h1, UInt32.toBitVec_and, BitVec.getLsbD_and, neg_low c i hi]
  rfl
theorem step_inj {a b : UInt32} (h : crcStep a = crcStep b) : a = b := by
  have hb : ∀ i, i < 32 → (a.toBitVec.getLsbD (i + 1) ^^ ((0xedb88320#32).getLsbD i && a.toBitVec.getLsbD 0)) = (b.toBitVec.getLsbD (i + 1) ^^ ((0xedb88320#32).getLsbD i && b.toBitVec.getLsbD 0)) := by
    intro i hi; rw [← step_bit a i hi, ← step_bit b i hi, h]
  have h0 : a.toBitVec.getLsbD 0 = b.toBitVec.getLsbD 0 := by
    have := hb 31 (by omega)
    simpa [BitVec.getLsbD_of_ge] using this
  refine u32_ext (fun i hi => ?_)
  cases i with
  | zero => exact h0
  | succ i =>
    have := hb i (by omega)
    rw [h0] at this
    simpa using this
theorem steps_inj {a b : UInt32} : ∀ k, crcSteps a k = crcSteps b k → a = b
  | 0, h => h
  | k + 1, h => steps_inj k (step_inj h)
theorem step_add (a z : UInt32) (hz : z.toNat < 2147483648) : crcStep a ^^^ z = crcStep (a ^^^ (z <<< 1)) := by
  refine u32_ext (fun i hi => ?_)
  rw [UInt32.toBitVec_xor, BitVec.getLsbD_xor, step_bit _ _ hi, step_bit _ _ hi, UInt32.toBitVec_xor, BitVec.getLsbD_xor, BitVec.getLsbD_xor]
  have h1 : ∀ j, (z <<< 1).toBitVec.getLsbD j = (decide (j < 32) && !decide (j < 1) && z.toBitVec.getLsbD (j - 1)) := by
    intro j
    rw [UInt32.toBitVec_shiftLeft]
    show (z.toBitVec <<< (1 : BitVec 32)).getLsbD j = _
    simp
  rw [h1, h1]
  by_cases h31 : i = 31
  · subst h31
    have : z.toBitVec.getLsbD 31 = false := by
      show z.toNat.testBit 31 = false
      exact Nat.testBit_lt_two_pow hz
    rw [this]; simp
  · have : i + 1 < 32 := by omega
    simp [this]
    generalize a.toBitVec.getLsbD (i+1) = x
    generalize z.toBitVec.getLsbD i = y
    generalize ((3988292384#32).getLsbD i && _) = t
    cases x <;> cases y <;> cases t <;> rfl
theorem steps_add (a : UInt32) : ∀ (k : Nat) (z : UInt32), z.toNat * 2 ^ k < 4294967296 → crcSteps a k ^^^ z = crcSteps (a ^^^ UInt32.ofNat (z.toNat * 2 ^ k)) k
  | 0, z, _ => by simp [crcSteps]
  | k + 1, z, h => by
    have hp : 0 < 2 ^ k := Nat.pow_pos (by omega)
    have h' : z.toNat * 2 ^ k * 2 < 4294967296 := by rw [Nat.pow_succ] at h; rw [Nat.mul_assoc]; exact h
    have hz : z.toNat < 2147483648 := by
      have : z.toNat * 1 ≤ z.toNat * 2 ^ k := Nat.mul_le_mul_left _ hp
      omega
    rw [crcSteps, step_add _ _ hz, steps_add a k (z <<< 1)]
    · have e : (z <<< 1).toNat * 2 ^ k = z.toNat * 2 ^ (k + 1) := by
        rw [UInt32.toNat_shiftLeft]
        show (z.toNat <<< 1) % 2 ^ 32 * 2 ^ k = _
        rw [Nat.shiftLeft_eq, Nat.mod_eq_of_lt (by omega), Nat.pow_one, Nat.pow_succ 2 k, Nat.mul_assoc, Nat.mul_comm (2 ^ k) 2]
      rw [e]; rfl
    · rw [UInt32.toNat_shiftLeft]
      show (z.toNat <<< 1) % 2 ^ 32 * 2 ^ k < _
      rw [Nat.shiftLeft_eq, Nat.mod_eq_of_lt (by omega)]
      rw [Nat.pow_succ] at h
      have : z.toNat * 2 ^ 1 * 2 ^ k = z.toNat * (2 ^ k * 2) := by simp only [Nat.pow_one, Nat.mul_assoc, Nat.mul_comm, Nat.mul_left_comm]
      omega
theorem steps_more (a : UInt32) (j : Nat) : ∀ k, crcSteps (crcSteps a j) k = crcSteps a (j + k)
  | 0 => rfl
  | k + 1 => by rw [crcSteps, steps_more a j k]; rfl
/-- Four bytes at once. -/
theorem four (s : UInt32) (a b c d : UInt8) : crcOf s [a, b, c, d] = crcSteps (s ^^^ (UInt32.ofNat a.toNat ^^^ UInt32.ofNat (b.toNat * 256) ^^^ UInt32.ofNat (c.toNat * 65536) ^^^ UInt32.ofNat (d.toNat * 16777216))) 32 := by
  have ha := a.toNat_lt; have hb := b.toNat_lt; have hc := c.toNat_lt; have hd := d.toNat_lt
  have e : ∀ x : UInt8, x.toUInt32.toNat = x.toNat := fun x => UInt8.toNat_toUInt32 x
  simp only [crcOf]
  rw [steps_add _ 8 b.toUInt32 (by rw [e]; omega), steps_more, steps_add _ (8 + 8) c.toUInt32 (by rw [e]; omega), steps_more, steps_add _ (8 + 8 + 8) d.toUInt32 (by rw [e]; omega), steps_more]
  rw [e, e, e]
  have ea : a.toUInt32 = UInt32.ofNat a.toNat := by apply UInt32.toNat_inj.1; rw [e, UInt32.toNat_ofNat']; omega
  rw [ea]
  simp only [UInt32.xor_assoc]
theorem crcOf_append (s : UInt32) (l m : List UInt8) : crcOf s (l ++ m) = crcOf (crcOf s l) m := by
  induction l generalizing s with
  | nil => rfl
  | cons a t ih => simp only [List.cons_append, crcOf, ih]
theorem crcOf_inj (l : List UInt8) : ∀ {a b : UInt32}, crcOf a l = crcOf b l → a = b := by
  induction l with
  | nil => intro a b h; exact h
  | cons x t ih =>
    intro a b h
    have := steps_inj 8 (ih h)
    exact (UInt32.xor_left_inj _).1 this
theorem word_xor (a b c d : UInt8) : (UInt32.ofNat a.toNat ^^^ UInt32.ofNat (b.toNat * 256) ^^^ UInt32.ofNat (c.toNat * 65536) ^^^ UInt32.ofNat (d.toNat * 16777216)).toNat = a.toNat + b.toNat * 256 + c.toNat * 65536 + d.toNat * 16777216 := by
  have ha := a.toNat_lt; have hb := b.toNat_lt; have hc := c.toNat_lt; have hd := d.toNat_lt
  have key : ∀ (x y k : Nat), x < 2 ^ k → x ^^^ (y * 2 ^ k) = x + y * 2 ^ k := by
    intro x y k hx
    rw [← Nat.shiftLeft_eq, Nat.add_comm, Nat.xor_comm, Nat.shiftLeft_add_eq_or_of_lt hx]
    apply Nat.eq_of_testBit_eq
    intro i
    simp only [Nat.testBit_xor, Nat.testBit_or, Nat.testBit_shiftLeft]
    by_cases hi : i ≥ k
    · have : x.testBit i = false := Nat.testBit_lt_two_pow (Nat.lt_of_lt_of_le hx (Nat.pow_le_pow_right (by omega) hi))
      simp [this]
    · simp [hi]
  simp only [UInt32.toNat_xor, UInt32.toNat_ofNat']
  rw [Nat.mod_eq_of_lt (by omega : a.toNat < 2 ^ 32), Nat.mod_eq_of_lt (by omega : b.toNat * 256 < 2 ^ 32), Nat.mod_eq_of_lt (by omega : c.toNat * 65536 < 2 ^ 32), Nat.mod_eq_of_lt (by omega : d.toNat * 16777216 < 2 ^ 32)]
  have k1 := key a.toNat b.toNat 8 ha
  have k2 := key (a.toNat + b.toNat * 256) c.toNat 16 (by omega)
  have k3 := key (a.toNat + b.toNat * 256 + c.toNat * 65536) d.toNat 24 (by omega)
  simp only [Nat.reducePow] at k1 k2 k3
  rw [k1, k2, k3]
theorem crc_burst (p r : List UInt8) (a b c d a' b' c' d' : UInt8) (h : crcB (p ++ ([a, b, c, d] ++ r)) = crcB (p ++ ([a', b', c', d'] ++ r))) : a = a' ∧ b = b' ∧ c = c' ∧ d = d' := by
  have ha := a.toNat_lt; have hb := b.toNat_lt; have hc := c.toNat_lt; have hd := d.toNat_lt
  have ha' := a'.toNat_lt; have hb' := b'.toNat_lt; have hc' := c'.toNat_lt; have hd' := d'.toNat_lt
  unfold crcB at h
  have h := (UInt32.not_inj).1 h
  rw [crcOf_append, crcOf_append, crcOf_append, crcOf_append] at h
  have h := crcOf_inj r h
  rw [four, four] at h
  have h := (UInt32.xor_right_inj _).1 (steps_inj 32 h)
  have h := congrArg UInt32.toNat h
  rw [word_xor, word_xor] at h
  refine ⟨?_, ?_, ?_, ?_⟩ <;> apply UInt8.toNat_inj.1 <;> omega
end Go.Proofs.YtdlkaeegcagkpaaDoor
