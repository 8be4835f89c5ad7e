/-
  What is told is taken: paths and ranges against roots. No walk.
-/
import Derived.Test.YtaebpnednhkfhaaDoorAll
namespace Go.Proofs.YtaebpnednhkfhaaDoor
open Go.RowKit
theorem partL_len (ls : List LV) (a b : Nat) (hb : b ≤ ls.length) : (partL ls a b).length = b - a := by
  unfold partL; rw [List.length_take, List.length_drop]; omega
theorem partL_take (ls : List LV) (a b h : Nat) (hh : h ≤ b - a) : (partL ls a b).take h = partL ls a (a + h) := by
  unfold partL; rw [List.take_take, Nat.min_eq_left hh, show a + h - a = h by omega]
theorem partL_drop (ls : List LV) (a b h : Nat) : (partL ls a b).drop h = partL ls (a + h) b := by
  unfold partL; rw [List.drop_take, List.drop_drop, show b - a - h = b - (a + h) by omega]
theorem partL_part (ls : List LV) (c d a b : Nat) (h1 : c ≤ a) (h2 : b ≤ d) : partL (partL ls c d) (a - c) (b - c) = partL ls a b := by
  unfold partL
  rw [List.drop_take, List.take_take, List.drop_drop, show c + (a - c) = a by omega, show min (b - c - (a - c)) (d - c - (a - c)) = b - a by omega]
theorem partL_all (ls : List LV) : partL ls 0 ls.length = ls := by unfold partL; simp
theorem bytesL_take (ls : List LV) (k : Nat) : bytesL (ls.take k) = (bytesL ls).take k := by unfold bytesL; rw [List.map_take]
theorem bytesL_drop (ls : List LV) (k : Nat) : bytesL (ls.drop k) = (bytesL ls).drop k := by unfold bytesL; rw [List.map_drop]
theorem bytesL_len (ls : List LV) : (bytesL ls).length = ls.length := by unfold bytesL; rw [List.length_map]
theorem root_part (z : Int) (ls : List LV) (a b : Nat) (h2 : 2 ≤ b - a) (hb : b ≤ ls.length) (h3 : ls.length ≤ 1000) :
    rootD z (bytesL (partL ls a b)) = nodeD z (rootD z (bytesL (partL ls a (a + halfN (b - a))))) (rootD z (bytesL (partL ls (a + halfN (b - a)) b))) := by
  obtain ⟨s1, s2, -⟩ := halfN_spec (b - a) h2 (by omega)
  have hl : (bytesL (partL ls a b)).length = b - a := by rw [bytesL_len, partL_len ls a b hb]
  rw [rootD_two z _ (by omega) (by omega), hl, ← bytesL_take, ← bytesL_drop, partL_take _ _ _ _ (by omega), partL_drop]
theorem partL_one (ls : List LV) (a : Nat) (p : LV) (hp : ls[a]? = some p) : partL ls a (a + 1) = [p] := by
  unfold partL
  rw [show a + 1 - a = 1 by omega]
  have hl := (List.getElem?_eq_some_iff.1 hp)
  obtain ⟨h1, h2⟩ := hl
  rw [List.drop_eq_getElem_cons h1, h2]
  rfl
theorem climb_app (z : Int) (u : List UInt8) (l1 l2 : List St) (d1 d2 : List (List UInt8)) (h : l1.length = d1.length) : climbD z u (l1 ++ l2) (d1 ++ d2) = climbD z (climbD z u l1 d1) l2 d2 := by
  unfold climbD
  rw [List.zip_append h, List.foldl_append]
/-- Check takes Path. -/
theorem climb_dn (z : Int) (ls : List LV) (i : Nat) (p : LV) (hp : ls[i]? = some p) (h3 : ls.length ≤ 1000) : ∀ (k a b : Nat), b - a ≤ k → a ≤ i → i < b → b ≤ ls.length →
    climbD z (leafD z p.bs) (dnL a b i).reverse (besideD z ls (spanS (dnL a b i).reverse)) = rootD z (bytesL (partL ls a b)) := by
  intro k
  induction k with
  | zero => intro a b h1 h2 h3; omega
  | succ k ih =>
    intro a b hk ha hb hbl
    by_cases h1 : b - a ≤ 1
    · rw [dnL_one i h1]
      have e : b = a + 1 := by omega
      have e2 : a = i := by omega
      subst e2
      rw [e, partL_one ls a p hp]
      rw [show climbD z (leafD z p.bs) ([] : List St).reverse (besideD z ls (spanS ([] : List St).reverse)) = leafD z p.bs from by simp [climbD], show bytesL [p] = [p.bs] from rfl, rootD_one]
    · obtain ⟨s1, s2, -⟩ := halfN_spec (b - a) (by omega) (by omega)
      rw [root_part z ls a b (by omega) hbl h3, dnL_two i (by omega) (by omega)]
      split
      · rename_i h2
        have h := ih a (a + halfN (b - a)) (by omega) ha h2 (by omega)
        rw [List.reverse_cons, show besideD z ls (spanS ((dnL a (a + halfN (b - a)) i).reverse ++ [⟨a + halfN (b - a), b, false⟩])) = besideD z ls (spanS (dnL a (a + halfN (b - a)) i).reverse) ++ [rootD z (bytesL (partL ls (a + halfN (b - a)) b))] from by simp [besideD, spanS], climb_app _ _ _ _ _ _ (by simp [besideD, spanS]), h]
        simp [climbD, joinS]
      · rename_i h2
        have h := ih (a + halfN (b - a)) b (by omega) (by omega) hb hbl
        rw [List.reverse_cons, show besideD z ls (spanS ((dnL (a + halfN (b - a)) b i).reverse ++ [⟨a, a + halfN (b - a), true⟩])) = besideD z ls (spanS (dnL (a + halfN (b - a)) b i).reverse) ++ [rootD z (bytesL (partL ls a (a + halfN (b - a))))] from by simp [besideD, spanS], climb_app _ _ _ _ _ _ (by simp [besideD, spanS]), h]
        simp [climbD, joinS]
theorem climb_path (z : Int) (ls : List LV) (i : Nat) (p : LV) (hp : ls[i]? = some p) (h3 : ls.length ≤ 1000) : climbD z (leafD z p.bs) (upL ls.length i) (besideD z ls (spanS (upL ls.length i))) = rootD z (bytesL ls) := by
  have h := climb_dn z ls i p hp h3 ls.length 0 ls.length (by omega) (Nat.zero_le _) (List.getElem?_eq_some_iff.1 hp).1 (Nat.le_refl _)
  rw [partL_all] at h
  exact h
/-- CheckRange takes Range. -/
theorem fill_out (z : Int) (ls : List LV) (c d : Nat) (hcd : c < d) (hd : d ≤ ls.length) (h3 : ls.length ≤ 1000) : ∀ (k a b : Nat) (rest : List (List UInt8)), b - a ≤ 2 ^ k → a < b → b ≤ ls.length →
    fillF z (partL ls c d) c d (k + 1) a b (besideD z ls (outL a b c d) ++ rest) = rootD z (bytesL (partL ls a b)) := by
  intro k
  induction k with
  | zero =>
    intro a b rest hk hab hbl
    rw [fillF]
    by_cases h1 : b ≤ c ∨ d ≤ a
    · rw [if_pos h1, outL_apart h1]; rfl
    · rw [if_neg h1, if_pos (out_one (by omega) hab hcd h1), partL_part _ _ _ _ _ (out_one (by omega) hab hcd h1).1 (out_one (by omega) hab hcd h1).2]
  | succ k ih =>
    intro a b rest hk hab hbl
    rw [fillF]
    by_cases h1 : b ≤ c ∨ d ≤ a
    · rw [if_pos h1, outL_apart h1]; rfl
    · by_cases h2 : c ≤ a ∧ b ≤ d
      · rw [if_neg h1, if_pos h2, partL_part _ _ _ _ _ h2.1 h2.2]
      · obtain ⟨h4, he⟩ := outL_two hcd hab (by omega) h1 h2
        obtain ⟨s1, s2, -⟩ := halfN_spec (b - a) h4 (by omega)
        obtain ⟨l1, l2⟩ := halfN_le (b - a) k h4 (by omega) hk
        have e1 : besideD z ls (outL a b c d) ++ rest = besideD z ls (outL a (a + halfN (b - a)) c d) ++ (besideD z ls (outL (a + halfN (b - a)) b c d) ++ rest) := by
          rw [he]; simp [besideD]
        rw [if_neg h1, if_neg h2, e1, ih a (a + halfN (b - a)) _ (by omega) (by omega) (by omega), List.drop_left' (by simp [besideD]), ih (a + halfN (b - a)) b _ (by omega) (by omega) hbl]
        exact (root_part z ls a b h4 hbl h3).symm
theorem fill_range (z : Int) (ls : List LV) (c d : Nat) (hcd : c < d) (hd : d ≤ ls.length) (h3 : ls.length ≤ 1000) : fillF z (partL ls c d) c d 64 0 ls.length (besideD z ls (outL 0 ls.length c d)) = rootD z (bytesL ls) := by
  have hp := pow63
  have h := fill_out z ls c d hcd hd h3 63 0 ls.length [] (by omega) (by omega) (Nat.le_refl _)
  rw [List.append_nil, partL_all] at h
  exact h
/-- What stands beside one leaf. -/
theorem out_dn (i : Nat) : ∀ (k a b : Nat), b - a ≤ k → a ≤ i → i < b → b ≤ 9223372036854775807 → (outL a b i (i + 1)).Perm (spanS (dnL a b i)) := by
  intro k
  induction k with
  | zero => intro a b h1 h2 h3; omega
  | succ k ih =>
    intro a b hk ha hb hbb
    by_cases h1 : b - a ≤ 1
    · rw [dnL_one i h1, outL_within (by omega) (by omega)]; exact List.Perm.refl _
    · obtain ⟨h4, he⟩ := outL_two (c := i) (d := i + 1) (by omega) (show a < b by omega) hbb (by omega) (by omega)
      obtain ⟨s1, s2, -⟩ := halfN_spec (b - a) h4 (by omega)
      rw [he, dnL_two i (by omega) hbb]
      split
      · rename_i h2
        rw [outL_apart (a := a + halfN (b - a)) (b := b) (c := i) (d := i + 1) (by omega)]
        have h := ih a (a + halfN (b - a)) (by omega) ha h2 (by omega)
        exact (List.perm_append_singleton _ _).trans (h.cons _)
      · rename_i h2
        rw [outL_apart (a := a) (b := a + halfN (b - a)) (c := i) (d := i + 1) (by omega)]
        have h := ih (a + halfN (b - a)) b (by omega) (by omega) hb hbb
        exact h.cons _
theorem out_up {n i : Nat} (hi : i < n) (hn : n ≤ 9223372036854775807) : (outL 0 n i (i + 1)).Perm (spanS (upL n i)) := by
  refine (out_dn i n 0 n (by omega) (Nat.zero_le _) hi hn).trans ?_
  unfold upL spanS
  rw [List.map_reverse]
  exact (List.reverse_perm _).symm
theorem dn_short (i : Nat) : ∀ (k a b : Nat), b - a ≤ 2 ^ k → b ≤ 9223372036854775807 → (dnL a b i).length ≤ k := by
  intro k
  induction k with
  | zero => intro a b h1 _; rw [dnL_one i (by simpa using h1)]; simp
  | succ k ih =>
    intro a b hk hb
    by_cases h1 : b - a ≤ 1
    · rw [dnL_one i h1]; simp
    · obtain ⟨s1, s2, -⟩ := halfN_spec (b - a) (by omega) (by omega)
      obtain ⟨l1, l2⟩ := halfN_le (b - a) k (by omega) (by omega) hk
      rw [dnL_two i (by omega) hb]
      split
      · have := ih a (a + halfN (b - a)) (by omega) (by omega); rw [List.length_cons]; omega
      · have := ih (a + halfN (b - a)) b (by omega) hb; rw [List.length_cons]; omega
theorem up_short {n i k : Nat} (hn : n ≤ 9223372036854775807) (hk : n ≤ 2 ^ k) : (upL n i).length ≤ k := by
  unfold upL; rw [List.length_reverse]; exact dn_short i k 0 n (by omega) hn
end Go.Proofs.YtaebpnednhkfhaaDoor
