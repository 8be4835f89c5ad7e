/-
  What three leaves come to. No walk.
-/
import Derived.Test.YtaebpnednhkfhaaDoorCrg
namespace Go.Proofs.YtaebpnednhkfhaaDoor
open Go.RowKit
theorem mask_full (c : UInt8) (l : Nat) (h : 8 ≤ l) : maskB c l = c := by
  unfold maskB
  rw [Nat.min_eq_right h, show UInt8.ofNat (255 - 255 / 2 ^ 8) = -1 from rfl]
  exact UInt8.and_neg_one
theorem keptB_full (d : List UInt8) (L : Nat) : ∀ i, 8 * i ≤ L → keptB d L i = d
  | 0, _ => rfl
  | i + 1, h => by
    rw [keptB, keptB_full d L i (by omega), mask_full _ _ (by omega)]
    apply List.ext_getElem?
    intro j
    rw [List.getElem?_set]
    split
    · rename_i hij
      subst hij
      split
      · rename_i hl
        rw [List.getD_eq_getElem?_getD, List.getElem?_eq_getElem hl]; rfl
      · rename_i hl
        rw [List.getElem?_eq_none (by omega)]
    · rfl
theorem keptZ_all (bs : List UInt8) : keptZ 256 bs = shaB bs := keptB_full _ _ 32 (by decide)
theorem half3 : halfN 3 = 2 := by decide
theorem half2 : halfN 2 = 1 := by decide
theorem rootD_one (z : Int) (a : List UInt8) : rootD z [a] = leafD z a := rfl
theorem root2 (z : Int) (a b : List UInt8) : rootD z [a, b] = nodeD z (leafD z a) (leafD z b) := by
  rw [rootD_two z [a, b] (by simp) (by simp)]
  simp [half2, rootD_one]
theorem root3 (z : Int) (a b c : List UInt8) : rootD z [a, b, c] = nodeD z (nodeD z (leafD z a) (leafD z b)) (leafD z c) := by
  rw [rootD_two z [a, b, c] (by simp) (by simp)]
  simp [half3, root2, rootD_one]
theorem up32 : upL 3 2 = [⟨0, 2, true⟩] := by kernel_rfl
theorem out312 : outL 0 3 1 2 = [(0, 1), (2, 3)] := by decide
theorem path3 (z : Int) (la lb lc : LV) : besideD z [la, lb, lc] (spanS (upL 3 2)) = [nodeD z (leafD z la.bs) (leafD z lb.bs)] := by
  rw [up32]
  show [rootD z [la.bs, lb.bs]] = _
  rw [root2]
theorem range3 (z : Int) (la lb lc : LV) : besideD z [la, lb, lc] (outL 0 3 1 2) = [leafD z la.bs, leafD z lc.bs] := by
  rw [out312]; rfl
theorem climb3 (z : Int) (u d : List UInt8) : climbD z u (upL 3 2) [d] = nodeD z d u := by rw [up32]; simp only [climbD, List.zip_cons_cons, List.zip_nil_left, List.foldl_cons, List.foldl_nil, joinS, if_true]
theorem fill3f (z : Int) (lb : LV) (d1 d2 : List UInt8) (f : Nat) : fillF z [lb] 1 2 (f + 1 + 1 + 1) 0 3 [d1, d2] = nodeD z (nodeD z d1 (leafD z lb.bs)) d2 := by
  have e1 : ∀ g ds, fillF z [lb] 1 2 (g + 1) 0 1 ds = ds.headD [] := fun g ds => by rw [fillF, if_pos (by omega)]
  have e2 : ∀ g ds, fillF z [lb] 1 2 (g + 1) 2 3 ds = ds.headD [] := fun g ds => by rw [fillF, if_pos (by omega)]
  have e3 : ∀ g ds, fillF z [lb] 1 2 (g + 1) 1 2 ds = leafD z lb.bs := fun g ds => by
    rw [fillF, if_neg (by omega), if_pos (by omega)]
    show rootD z [lb.bs] = _
    exact rootD_one z lb.bs
  rw [fillF, if_neg (by omega), if_neg (by omega), show 0 + halfN (3 - 0) = 2 from by decide, show (outL 0 2 1 2).length = 1 from by decide, e2]
  rw [fillF, if_neg (by omega), if_neg (by omega), show 0 + halfN (2 - 0) = 1 from by decide, e1, e3]
  simp only [List.headD_cons, List.drop_succ_cons, List.drop_zero]
theorem fill3 (z : Int) (lb : LV) (d1 d2 : List UInt8) : fillF z [lb] 1 2 64 0 3 [d1, d2] = nodeD z (nodeD z d1 (leafD z lb.bs)) d2 := fill3f z lb d1 d2 61
end Go.Proofs.YtaebpnednhkfhaaDoor
