/-
  What marlstonelaw02.SumKept answers: a contract over this translation.
-/
import Derived.Test.YtecacjddggljgaaDoorPartBG
namespace Go.Proofs.YtecacjddggljgaaDoor.Sm
open Go.RowKit
def bitU (k : Nat) : UInt8 := UInt8.ofNat (128 / 2 ^ k)
theorem bitU_num (k : Nat) : (bitU k).toNat = 128 / 2 ^ k := toNat_ofNat _ (Nat.lt_of_le_of_lt (Nat.div_le_self _ _) (by omega))
theorem mask_bits : ∀ (l : Fin 9) (k : Fin 8), UInt8.ofNat (255 - 255 / 2 ^ (min l.val 8)) &&& bitU k.val = if k.val < l.val then bitU k.val else 0 := by decide +kernel
theorem mask_bit (c : UInt8) (l k : Nat) (hk : k < 8) : maskB c l &&& bitU k = if k < l then c &&& bitU k else 0 := by
  have h := mask_bits ⟨min l 8, by omega⟩ ⟨k, hk⟩
  simp only [Nat.min_assoc, Nat.min_self] at h
  rw [maskB, UInt8.and_assoc, h]
  by_cases hkl : k < l
  · rw [if_pos (by omega), if_pos hkl]
  · rw [if_neg (by omega), if_neg hkl]; simp
theorem keptB_at (d : List UInt8) (l j : Nat) (hj : j < d.length) : ∀ m, j < m → (keptB d l m).getD j 0 = maskB (d.getD j 0) (l - 8 * j)
  | 0, h => by omega
  | m + 1, h => by
    by_cases hm : j = m
    · subst hm
      rw [keptB, List.getD, List.getElem?_set_self (by rw [keptB_length]; omega)]
      rfl
    · rw [keptB, List.getD, List.getElem?_set_ne (by omega)]
      exact keptB_at d l j hj m (by omega)
theorem kept_bit (d : List UInt8) (hd : d.length = 32) (L i : Nat) (hi : i < 256) : (keptB d L 32).getD (i / 8) 0 &&& bitU (i % 8) = if i < L then d.getD (i / 8) 0 &&& bitU (i % 8) else 0 := by
  rw [keptB_at d L (i / 8) (by omega) 32 (by omega), mask_bit _ _ _ (by omega)]
  by_cases h : i < L
  · rw [if_pos (by omega), if_pos h]
  · rw [if_neg (by omega), if_neg h]
theorem and_num (x y : UInt8) : bits .and .u8 (x.toNat : Int) (y.toNat : Int) = ((x &&& y).toNat : Int) := by
  rw [u8_and_nat _ _ x.toNat_lt y.toNat_lt, UInt8.toNat_and]
theorem and_seven (i : Nat) (hi : i < 256) : bits .and .i64 (i : Int) 7 = ((i % 8 : Nat) : Int) := by
  have : ∀ i : Fin 256, bits .and .i64 ((i.val : Nat) : Int) 7 = ((i.val % 8 : Nat) : Int) := by decide +kernel
  exact this ⟨i, hi⟩
theorem shift_128 (h : Nat) (hh : h < 8) (w : World) : (Op.shift .shr .u8 128 .u64 (h : Int)).run Tryd.prog w = .ok (.int .u8 ((128 / 2 ^ h : Nat) : Int)) w := by
  match h, hh with
  | 0, _ => rfl
  | 1, _ => rfl
  | 2, _ => rfl
  | 3, _ => rfl
  | 4, _ => rfl
  | 5, _ => rfl
  | 6, _ => rfl
  | 7, _ => rfl
end Go.Proofs.YtecacjddggljgaaDoor.Sm
