/-
  What is told is taken: paths and ranges against roots. No walk. What an opening and what there is have in common: plain mathematics of clashes. No walk. A leaf's path, put in a range's order: plain mathematics. No walk.
-/
import Derived.Test.YtecacjddggljgaaDoorPartCH
namespace Go.Proofs.YtecacjddggljgaaDoor.Sm
open Go.RowKit
theorem partL_len (ls : List LV) (a b : Nat) (hb : b ≤ ls.length) : (partL ls a b).length = b - a := by
  unfold partL; rw [List.length_take, List.length_drop]; omega
theorem partL_take (ls : List LV) (a b h : Nat) (hh : h ≤ b - a) : (partL ls a b).take h = partL ls a (a + h) := by
  unfold partL; rw [List.take_take, Nat.min_eq_left hh, show a + h - a = h by omega]
theorem partL_drop (ls : List LV) (a b h : Nat) : (partL ls a b).drop h = partL ls (a + h) b := by
  unfold partL; rw [List.drop_take, List.drop_drop, show b - a - h = b - (a + h) by omega]
theorem partL_part (ls : List LV) (c d a b : Nat) (h1 : c ≤ a) (h2 : b ≤ d) : partL (partL ls c d) (a - c) (b - c) = partL ls a b := by
  unfold partL
  rw [List.drop_take, List.take_take, List.drop_drop, show c + (a - c) = a by omega, show min (b - c - (a - c)) (d - c - (a - c)) = b - a by omega]
theorem partL_all (ls : List LV) : partL ls 0 ls.length = ls := by unfold partL; simp
theorem bytesL_take (ls : List LV) (k : Nat) : bytesL (ls.take k) = (bytesL ls).take k := by unfold bytesL; rw [List.map_take]
theorem bytesL_drop (ls : List LV) (k : Nat) : bytesL (ls.drop k) = (bytesL ls).drop k := by unfold bytesL; rw [List.map_drop]
theorem bytesL_len (ls : List LV) : (bytesL ls).length = ls.length := by unfold bytesL; rw [List.length_map]
theorem root_part (z : Int) (ls : List LV) (a b : Nat) (h2 : 2 ≤ b - a) (hb : b ≤ ls.length) (h3 : ls.length ≤ 1000) :
    rootD z (bytesL (partL ls a b)) = nodeD z (rootD z (bytesL (partL ls a (a + halfN (b - a))))) (rootD z (bytesL (partL ls (a + halfN (b - a)) b))) := by
  obtain ⟨s1, s2, -⟩ := halfN_spec (b - a) h2 (by omega)
  have hl : (bytesL (partL ls a b)).length = b - a := by rw [bytesL_len, partL_len ls a b hb]
  rw [rootD_two z _ (by omega) (by omega), hl, ← bytesL_take, ← bytesL_drop, partL_take _ _ _ _ (by omega), partL_drop]
theorem partL_one (ls : List LV) (a : Nat) (p : LV) (hp : ls[a]? = some p) : partL ls a (a + 1) = [p] := by
  unfold partL
  rw [show a + 1 - a = 1 by omega]
  have hl := (List.getElem?_eq_some_iff.1 hp)
  obtain ⟨h1, h2⟩ := hl
  rw [List.drop_eq_getElem_cons h1, h2]
  rfl
theorem climb_app (z : Int) (u : List UInt8) (l1 l2 : List St) (d1 d2 : List (List UInt8)) (h : l1.length = d1.length) : climbD z u (l1 ++ l2) (d1 ++ d2) = climbD z (climbD z u l1 d1) l2 d2 := by
  unfold climbD
  rw [List.zip_append h, List.foldl_append]
/-- Check takes Path. -/
theorem climb_dn (z : Int) (ls : List LV) (i : Nat) (p : LV) (hp : ls[i]? = some p) (h3 : ls.length ≤ 1000) : ∀ (k a b : Nat), b - a ≤ k → a ≤ i → i < b → b ≤ ls.length →
    climbD z (leafD z p.bs) (dnL a b i).reverse (besideD z ls (spanS (dnL a b i).reverse)) = rootD z (bytesL (partL ls a b)) := by
  intro k
  induction k with
  | zero => intro a b h1 h2 h3; omega
  | succ k ih =>
    intro a b hk ha hb hbl
    by_cases h1 : b - a ≤ 1
    · rw [dnL_one i h1]
      have e : b = a + 1 := by omega
      have e2 : a = i := by omega
      subst e2
      rw [e, partL_one ls a p hp]
      rw [show climbD z (leafD z p.bs) ([] : List St).reverse (besideD z ls (spanS ([] : List St).reverse)) = leafD z p.bs from by simp [climbD], show bytesL [p] = [p.bs] from rfl, rootD_one]
    · obtain ⟨s1, s2, -⟩ := halfN_spec (b - a) (by omega) (by omega)
      rw [root_part z ls a b (by omega) hbl h3, dnL_two i (by omega) (by omega)]
      split
      · rename_i h2
        have h := ih a (a + halfN (b - a)) (by omega) ha h2 (by omega)
        rw [List.reverse_cons, show besideD z ls (spanS ((dnL a (a + halfN (b - a)) i).reverse ++ [⟨a + halfN (b - a), b, false⟩])) = besideD z ls (spanS (dnL a (a + halfN (b - a)) i).reverse) ++ [rootD z (bytesL (partL ls (a + halfN (b - a)) b))] from by simp [besideD, spanS], climb_app _ _ _ _ _ _ (by simp [besideD, spanS]), h]
        simp [climbD, joinS]
      · rename_i h2
        have h := ih (a + halfN (b - a)) b (by omega) (by omega) hb hbl
        rw [List.reverse_cons, show besideD z ls (spanS ((dnL (a + halfN (b - a)) b i).reverse ++ [⟨a, a + halfN (b - a), true⟩])) = besideD z ls (spanS (dnL (a + halfN (b - a)) b i).reverse) ++ [rootD z (bytesL (partL ls a (a + halfN (b - a))))] from by simp [besideD, spanS], climb_app _ _ _ _ _ _ (by simp [besideD, spanS]), h]
        simp [climbD, joinS]
theorem climb_path (z : Int) (ls : List LV) (i : Nat) (p : LV) (hp : ls[i]? = some p) (h3 : ls.length ≤ 1000) : climbD z (leafD z p.bs) (upL ls.length i) (besideD z ls (spanS (upL ls.length i))) = rootD z (bytesL ls) := by
  have h := climb_dn z ls i p hp h3 ls.length 0 ls.length (by omega) (Nat.zero_le _) (List.getElem?_eq_some_iff.1 hp).1 (Nat.le_refl _)
  rw [partL_all] at h
  exact h
/-- CheckRange takes Range. -/
theorem fill_out (z : Int) (ls : List LV) (c d : Nat) (hcd : c < d) (hd : d ≤ ls.length) (h3 : ls.length ≤ 1000) : ∀ (k a b : Nat) (rest : List (List UInt8)), b - a ≤ 2 ^ k → a < b → b ≤ ls.length →
    fillF z (partL ls c d) c d (k + 1) a b (besideD z ls (outL a b c d) ++ rest) = rootD z (bytesL (partL ls a b)) := by
  intro k
  induction k with
  | zero =>
    intro a b rest hk hab hbl
    rw [fillF]
    by_cases h1 : b ≤ c ∨ d ≤ a
    · rw [if_pos h1, outL_apart h1]; rfl
    · rw [if_neg h1, if_pos (out_one (by omega) hab hcd h1), partL_part _ _ _ _ _ (out_one (by omega) hab hcd h1).1 (out_one (by omega) hab hcd h1).2]
  | succ k ih =>
    intro a b rest hk hab hbl
    rw [fillF]
    by_cases h1 : b ≤ c ∨ d ≤ a
    · rw [if_pos h1, outL_apart h1]; rfl
    · by_cases h2 : c ≤ a ∧ b ≤ d
      · rw [if_neg h1, if_pos h2, partL_part _ _ _ _ _ h2.1 h2.2]
      · obtain ⟨h4, he⟩ := outL_two hcd hab (by omega) h1 h2
        obtain ⟨s1, s2, -⟩ := halfN_spec (b - a) h4 (by omega)
        obtain ⟨l1, l2⟩ := halfN_le (b - a) k h4 (by omega) hk
        have e1 : besideD z ls (outL a b c d) ++ rest = besideD z ls (outL a (a + halfN (b - a)) c d) ++ (besideD z ls (outL (a + halfN (b - a)) b c d) ++ rest) := by
          rw [he]; simp [besideD]
        rw [if_neg h1, if_neg h2, e1, ih a (a + halfN (b - a)) _ (by omega) (by omega) (by omega), List.drop_left' (by simp [besideD]), ih (a + halfN (b - a)) b _ (by omega) (by omega) hbl]
        exact (root_part z ls a b h4 hbl h3).symm
theorem fill_range (z : Int) (ls : List LV) (c d : Nat) (hcd : c < d) (hd : d ≤ ls.length) (h3 : ls.length ≤ 1000) : fillF z (partL ls c d) c d 64 0 ls.length (besideD z ls (outL 0 ls.length c d)) = rootD z (bytesL ls) := by
  have hp := pow63
  have h := fill_out z ls c d hcd hd h3 63 0 ls.length [] (by omega) (by omega) (Nat.le_refl _)
  rw [List.append_nil, partL_all] at h
  exact h
/-- What stands beside one leaf. -/
theorem out_dn (i : Nat) : ∀ (k a b : Nat), b - a ≤ k → a ≤ i → i < b → b ≤ 9223372036854775807 → (outL a b i (i + 1)).Perm (spanS (dnL a b i)) := by
  intro k
  induction k with
  | zero => intro a b h1 h2 h3; omega
  | succ k ih =>
    intro a b hk ha hb hbb
    by_cases h1 : b - a ≤ 1
    · rw [dnL_one i h1, outL_within (by omega) (by omega)]; exact List.Perm.refl _
    · obtain ⟨h4, he⟩ := outL_two (c := i) (d := i + 1) (by omega) (show a < b by omega) hbb (by omega) (by omega)
      obtain ⟨s1, s2, -⟩ := halfN_spec (b - a) h4 (by omega)
      rw [he, dnL_two i (by omega) hbb]
      split
      · rename_i h2
        rw [outL_apart (a := a + halfN (b - a)) (b := b) (c := i) (d := i + 1) (by omega)]
        have h := ih a (a + halfN (b - a)) (by omega) ha h2 (by omega)
        exact (List.perm_append_singleton _ _).trans (h.cons _)
      · rename_i h2
        rw [outL_apart (a := a) (b := a + halfN (b - a)) (c := i) (d := i + 1) (by omega)]
        have h := ih (a + halfN (b - a)) b (by omega) (by omega) hb hbb
        exact h.cons _
theorem out_up {n i : Nat} (hi : i < n) (hn : n ≤ 9223372036854775807) : (outL 0 n i (i + 1)).Perm (spanS (upL n i)) := by
  refine (out_dn i n 0 n (by omega) (Nat.zero_le _) hi hn).trans ?_
  unfold upL spanS
  rw [List.map_reverse]
  exact (List.reverse_perm _).symm
theorem dn_short (i : Nat) : ∀ (k a b : Nat), b - a ≤ 2 ^ k → b ≤ 9223372036854775807 → (dnL a b i).length ≤ k := by
  intro k
  induction k with
  | zero => intro a b h1 _; rw [dnL_one i (by simpa using h1)]; simp
  | succ k ih =>
    intro a b hk hb
    by_cases h1 : b - a ≤ 1
    · rw [dnL_one i h1]; simp
    · obtain ⟨s1, s2, -⟩ := halfN_spec (b - a) (by omega) (by omega)
      obtain ⟨l1, l2⟩ := halfN_le (b - a) k (by omega) (by omega) hk
      rw [dnL_two i (by omega) hb]
      split
      · have := ih a (a + halfN (b - a)) (by omega) (by omega); rw [List.length_cons]; omega
      · have := ih (a + halfN (b - a)) b (by omega) hb; rw [List.length_cons]; omega
theorem up_short {n i k : Nat} (hn : n ≤ 9223372036854775807) (hk : n ≤ 2 ^ k) : (upL n i).length ≤ k := by
  unfold upL; rw [List.length_reverse]; exact dn_short i k 0 n (by omega) hn
end Go.Proofs.YtecacjddggljgaaDoor.Sm
namespace Go.Proofs.YtecacjddggljgaaDoor.Sm
open Go.RowKit
/-- A leaf or node of two trees of one shape: the opened text and the real one, the opened sum and the real one, and what is below. -/
def PT : Nat → Type
  | 0 => Unit
  | k + 1 => Option ((List UInt8 × List UInt8 × List UInt8 × List UInt8) × PT k × PT k)
def PT.nil : {k : Nat} → PT k
  | 0 => ()
  | _ + 1 => none
def PT.mk {k : Nat} (ot rt od rd : List UInt8) (l r : PT k) : PT (k + 1) := some ((ot, rt, od, rd), l, r)
theorem PT.two {k : Nat} (T : PT (k + 1)) : T = PT.nil ∨ ∃ ot rt od rd l r, T = PT.mk ot rt od rd l r := by
  cases (T : Option ((List UInt8 × List UInt8 × List UInt8 × List UInt8) × PT k × PT k)) with
  | none => exact .inl rfl
  | some p => exact .inr ⟨p.1.1, p.1.2.1, p.1.2.2.1, p.1.2.2.2, p.2.1, p.2.2, rfl⟩
def PT.od : {k : Nat} → PT k → List UInt8
  | 0, _ => []
  | k + 1, T => match (T : Option ((List UInt8 × List UInt8 × List UInt8 × List UInt8) × PT k × PT k)) with | none => [] | some p => p.1.2.2.1
def PT.rd : {k : Nat} → PT k → List UInt8
  | 0, _ => []
  | k + 1, T => match (T : Option ((List UInt8 × List UInt8 × List UInt8 × List UInt8) × PT k × PT k)) with | none => [] | some p => p.1.2.2.2
theorem PT.od_mk {k : Nat} (a b c d : List UInt8) (l r : PT k) : (PT.mk a b c d l r).od = c := rfl
theorem PT.rd_mk {k : Nat} (a b c d : List UInt8) (l r : PT k) : (PT.mk a b c d l r).rd = d := rfl
/-- The first two texts from the top down that are not the same. -/
def unl : {k : Nat} → PT k → Option (List UInt8 × List UInt8)
  | 0, _ => none
  | k + 1, T => match (T : Option ((List UInt8 × List UInt8 × List UInt8 × List UInt8) × PT k × PT k)) with
    | none => none
    | some p => if p.1.1 = p.1.2.1 then (match unl p.2.1 with | none => unl p.2.2 | some q => some q) else some (p.1.1, p.1.2.1)
theorem unl_nil {k : Nat} : unl (PT.nil : PT k) = none := by cases k <;> rfl
theorem unl_mk {k : Nat} (ot rt od rd : List UInt8) (l r : PT k) : unl (PT.mk ot rt od rd l r) = if ot = rt then (match unl l with | none => unl r | some p => some p) else some (ot, rt) := rfl
def bsAt (l : List LV) (i : Nat) : List UInt8 := (bytesL l).getD i []
theorem bsAt_some {l : List LV} {i : Nat} {p : LV} (h : l[i]? = some p) : bsAt l i = p.bs := by
  unfold bsAt bytesL
  rw [List.getD_eq_getElem?_getD, List.getElem?_map, h]
  rfl
/-- The pairs of an opening of the leaves from c to d - 1, over the leaves from a to b - 1. -/
def openT (z : Int) (real part : List LV) (c d : Nat) : (f : Nat) → Nat → Nat → List (List UInt8) → PT f
  | 0, _, _, _ => .nil
  | f + 1, a, b, ds => if b ≤ c ∨ d ≤ a then .mk [] [] (ds.headD []) (rootD z (bytesL (partL real a b))) .nil .nil
    else if b - a ≤ 1 then .mk (0 :: bsAt part (a - c)) (0 :: bsAt real a) (leafD z (bsAt part (a - c))) (leafD z (bsAt real a)) .nil .nil
    else .mk (1 :: ((openT z real part c d f a (a + halfN (b - a)) ds).od ++ (openT z real part c d f (a + halfN (b - a)) b (ds.drop (outL a (a + halfN (b - a)) c d).length)).od))
      (1 :: ((openT z real part c d f a (a + halfN (b - a)) ds).rd ++ (openT z real part c d f (a + halfN (b - a)) b (ds.drop (outL a (a + halfN (b - a)) c d).length)).rd))
      (nodeD z (openT z real part c d f a (a + halfN (b - a)) ds).od (openT z real part c d f (a + halfN (b - a)) b (ds.drop (outL a (a + halfN (b - a)) c d).length)).od)
      (nodeD z (openT z real part c d f a (a + halfN (b - a)) ds).rd (openT z real part c d f (a + halfN (b - a)) b (ds.drop (outL a (a + halfN (b - a)) c d).length)).rd)
      (openT z real part c d f a (a + halfN (b - a)) ds) (openT z real part c d f (a + halfN (b - a)) b (ds.drop (outL a (a + halfN (b - a)) c d).length))
theorem openT_apart (z : Int) (real part : List LV) (c d f a b : Nat) (ds : List (List UInt8)) (h : b ≤ c ∨ d ≤ a) : openT z real part c d (f + 1) a b ds = .mk [] [] (ds.headD []) (rootD z (bytesL (partL real a b))) .nil .nil := by
  rw [openT, if_pos h]
theorem openT_leaf (z : Int) (real part : List LV) (c d f a b : Nat) (ds : List (List UInt8)) (h : ¬ (b ≤ c ∨ d ≤ a)) (h1 : b - a ≤ 1) : openT z real part c d (f + 1) a b ds = .mk (0 :: bsAt part (a - c)) (0 :: bsAt real a) (leafD z (bsAt part (a - c))) (leafD z (bsAt real a)) .nil .nil := by
  rw [openT, if_neg h, if_pos h1]
theorem openT_node (z : Int) (real part : List LV) (c d f a b m : Nat) (ds : List (List UInt8)) (h : ¬ (b ≤ c ∨ d ≤ a)) (h1 : ¬ b - a ≤ 1) (hm : a + halfN (b - a) = m) (L R : PT f) (hL : openT z real part c d f a m ds = L) (hR : openT z real part c d f m b (ds.drop (outL a m c d).length) = R) :
    openT z real part c d (f + 1) a b ds = .mk (1 :: (L.od ++ R.od)) (1 :: (L.rd ++ R.rd)) (nodeD z L.od R.od) (nodeD z L.rd R.rd) L R := by
  subst hm
  rw [openT, if_neg h, if_neg h1, hL, hR]
/-- Where it is not apart, the parts of both halves. -/
theorem outL_both {a b c d : Nat} (hcd : c < d) (hb : b ≤ 9223372036854775807) (h1 : ¬ (b ≤ c ∨ d ≤ a)) (h2 : ¬ b - a ≤ 1) : outL a b c d = outL a (a + halfN (b - a)) c d ++ outL (a + halfN (b - a)) b c d := by
  obtain ⟨s1, s2, -⟩ := halfN_spec (b - a) (by omega) (by omega)
  by_cases h3 : c ≤ a ∧ b ≤ d
  · rw [outL_within h1 h3, outL_within (by omega) (by omega), outL_within (by omega) (by omega)]; rfl
  · exact (outL_two hcd (by omega) hb h1 h3).2
theorem rootD_at (z : Int) (l : List LV) (a b : Nat) (hab : b - a ≤ 1) (h : a < b) (hb : b ≤ l.length) : rootD z (bytesL (partL l a b)) = leafD z (bsAt l a) := by
  obtain ⟨p, hp⟩ : ∃ p, l[a]? = some p := ⟨_, List.getElem?_eq_getElem (by omega)⟩
  rw [show b = a + 1 by omega, partL_one l a p hp, bsAt_some hp, show bytesL [p] = [p.bs] from rfl, rootD_one]
theorem openT_rd (z : Int) (real part : List LV) (c d : Nat) (h3 : real.length ≤ 1000) : ∀ (k a b : Nat) (ds : List (List UInt8)), b - a ≤ 2 ^ k → a < b → b ≤ real.length → (openT z real part c d (k + 1) a b ds).rd = rootD z (bytesL (partL real a b)) := by
  intro k
  induction k with
  | zero =>
    intro a b ds hk hab hb
    by_cases h1 : b ≤ c ∨ d ≤ a
    · rw [openT_apart _ _ _ _ _ _ _ _ _ h1, PT.rd_mk]
    · have hk1 : b - a ≤ 1 := by simpa using hk
      rw [openT_leaf _ _ _ _ _ _ _ _ _ h1 hk1, rootD_at z real a b hk1 hab hb, PT.rd_mk]
  | succ k ih =>
    intro a b ds hk hab hb
    by_cases h1 : b ≤ c ∨ d ≤ a
    · rw [openT_apart _ _ _ _ _ _ _ _ _ h1, PT.rd_mk]
    · by_cases h2 : b - a ≤ 1
      · rw [openT_leaf _ _ _ _ _ _ _ _ _ h1 h2, rootD_at z real a b h2 hab hb, PT.rd_mk]
      · obtain ⟨s1, s2, -⟩ := halfN_spec (b - a) (by omega) (by omega)
        obtain ⟨l1, l2⟩ := halfN_le (b - a) k (by omega) (by omega) hk
        rw [openT_node _ _ _ _ _ _ _ _ _ _ h1 h2 rfl _ _ rfl rfl, root_part z real a b (by omega) hb h3, PT.rd_mk, ih a (a + halfN (b - a)) ds (by omega) (by omega) (by omega), ih (a + halfN (b - a)) b _ (by omega) (by omega) hb]
theorem openT_od (z : Int) (real part : List LV) (c d : Nat) (hcd : c < d) (hd : d - c ≤ part.length) (h3 : part.length ≤ 1000) : ∀ (k a b : Nat) (ds : List (List UInt8)), b - a ≤ 2 ^ k → a < b → b ≤ 9223372036854775807 → (openT z real part c d (k + 1) a b ds).od = fillF z part c d (k + 1) a b ds := by
  intro k
  induction k with
  | zero =>
    intro a b ds hk hab hb
    by_cases h1 : b ≤ c ∨ d ≤ a
    · rw [openT_apart _ _ _ _ _ _ _ _ _ h1, fillF, if_pos h1, PT.od_mk]
    · have hk1 : b - a ≤ 1 := by simpa using hk
      have h2 := out_one hk1 hab hcd h1
      rw [openT_leaf _ _ _ _ _ _ _ _ _ h1 hk1, fillF, if_neg h1, if_pos h2, rootD_at z part (a - c) (b - c) (by omega) (by omega) (by omega), PT.od_mk]
  | succ k ih =>
    intro a b ds hk hab hb
    by_cases h1 : b ≤ c ∨ d ≤ a
    · rw [openT_apart _ _ _ _ _ _ _ _ _ h1, fillF, if_pos h1, PT.od_mk]
    · by_cases h2 : b - a ≤ 1
      · have h4 := out_one h2 hab hcd h1
        rw [openT_leaf _ _ _ _ _ _ _ _ _ h1 h2, fillF, if_neg h1, if_pos h4, rootD_at z part (a - c) (b - c) (by omega) (by omega) (by omega), PT.od_mk]
      · obtain ⟨s1, s2, -⟩ := halfN_spec (b - a) (by omega) (by omega)
        obtain ⟨l1, l2⟩ := halfN_le (b - a) k (by omega) (by omega) hk
        rw [openT_node _ _ _ _ _ _ _ _ _ _ h1 h2 rfl _ _ rfl rfl, fillF, if_neg h1, PT.od_mk, ih a (a + halfN (b - a)) ds (by omega) (by omega) (by omega), ih (a + halfN (b - a)) b _ (by omega) (by omega) hb]
        by_cases h4 : c ≤ a ∧ b ≤ d
        · have e : b - c - (a - c) = b - a := by omega
          have e2 : a - c + halfN (b - a) = a + halfN (b - a) - c := by omega
          rw [if_pos h4, root_part z part (a - c) (b - c) (by omega) (by omega) h3, e, e2, fillF, if_neg (by omega), if_pos (by omega), fillF, if_neg (by omega), if_pos (by omega)]
        · rw [if_neg h4]
theorem openT_len (z : Int) (real part : List LV) (c d : Nat) (k a b : Nat) (ds : List (List UInt8)) (hds : ∀ e ∈ ds, e.length = 32) (hl : (outL a b c d).length ≤ ds.length) : (openT z real part c d (k + 1) a b ds).od.length = 32 ∧ (openT z real part c d (k + 1) a b ds).rd.length = 32 := by
  by_cases h1 : b ≤ c ∨ d ≤ a
  · rw [openT_apart _ _ _ _ _ _ _ _ _ h1, PT.od_mk, PT.rd_mk]
    rw [outL_apart h1] at hl
    cases ds with
    | nil => simp at hl
    | cons e t => exact ⟨hds e (by simp), rootD_length _ _⟩
  · by_cases h2 : b - a ≤ 1
    · rw [openT_leaf _ _ _ _ _ _ _ _ _ h1 h2, PT.od_mk, PT.rd_mk]; exact ⟨leafD_length _ _, leafD_length _ _⟩
    · rw [openT_node _ _ _ _ _ _ _ _ _ _ h1 h2 rfl _ _ rfl rfl, PT.od_mk, PT.rd_mk]; exact ⟨nodeD_length _ _ _, nodeD_length _ _ _⟩
theorem unl_leaf {k : Nat} (x y d1 d2 : List UInt8) : unl (PT.mk x y d1 d2 (.nil : PT k) .nil) = if x = y then none else some (x, y) := by
  rw [unl_mk, unl_nil]
theorem app32 {a b c d : List UInt8} (h : a ++ b = c ++ d) (h1 : a.length = 32) (h2 : c.length = 32) : a = c ∧ b = d := List.append_inj h (by rw [h1, h2])
/-- Whoever opens what is not there shows two unlike texts with one sum; whoever shows nothing opens what is there. -/
theorem unl_sound (z : Int) (real part : List LV) (c d : Nat) (hcd : c < d) : ∀ (k a b : Nat) (ds : List (List UInt8)), b - a ≤ 2 ^ k → a < b → b ≤ 9223372036854775807 → (∀ e ∈ ds, e.length = 32) → (outL a b c d).length ≤ ds.length →
    (openT z real part c d (k + 1) a b ds).od = (openT z real part c d (k + 1) a b ds).rd →
      (∀ x y, unl (openT z real part c d (k + 1) a b ds) = some (x, y) → x ≠ y ∧ keptZ z x = keptZ z y) ∧
      (unl (openT z real part c d (k + 1) a b ds) = none → (∀ i, a ≤ i → i < b → c ≤ i → i < d → bsAt part (i - c) = bsAt real i) ∧ ds.take (outL a b c d).length = besideD z real (outL a b c d)) := by
  intro k
  induction k with
  | zero =>
    intro a b ds hk hab hb hds hl he
    by_cases h1 : b ≤ c ∨ d ≤ a
    · rw [openT_apart _ _ _ _ _ _ _ _ _ h1] at he ⊢
      rw [PT.od_mk, PT.rd_mk] at he
      rw [outL_apart h1] at hl ⊢
      rw [unl_leaf, if_pos rfl]
      refine ⟨fun x y h => (by cases h), fun _ => ⟨fun i h2 h3 h4 h5 => absurd h1 (by omega), ?_⟩⟩
      cases ds with
      | nil => simp at hl
      | cons e t =>
        rw [List.headD_cons] at he
        rw [he]; simp [besideD]
    · have hk1 : b - a ≤ 1 := by simpa using hk
      have h2 := out_one hk1 hab hcd h1
      rw [openT_leaf _ _ _ _ _ _ _ _ _ h1 hk1] at he ⊢
      rw [PT.od_mk, PT.rd_mk] at he
      rw [outL_within h1 h2, unl_leaf]
      refine ⟨fun x y h => ?_, fun h => ⟨fun i h3 h4 h5 h6 => ?_, rfl⟩⟩
      · split at h
        · cases h
        · rename_i hne; cases h; exact ⟨hne, he⟩
      · split at h
        · rename_i heq
          rw [show i = a by omega]
          exact (List.cons.inj heq).2
        · cases h
  | succ k ih =>
    intro a b ds hk hab hb hds hl he
    by_cases h1 : b ≤ c ∨ d ≤ a
    · rw [openT_apart _ _ _ _ _ _ _ _ _ h1] at he ⊢
      rw [PT.od_mk, PT.rd_mk] at he
      rw [outL_apart h1] at hl ⊢
      rw [unl_leaf, if_pos rfl]
      refine ⟨fun x y h => (by cases h), fun _ => ⟨fun i h2 h3 h4 h5 => absurd h1 (by omega), ?_⟩⟩
      cases ds with
      | nil => simp at hl
      | cons e t =>
        rw [List.headD_cons] at he
        rw [he]; simp [besideD]
    · by_cases hk1 : b - a ≤ 1
      · have h2 := out_one hk1 hab hcd h1
        rw [openT_leaf _ _ _ _ _ _ _ _ _ h1 hk1] at he ⊢
        rw [PT.od_mk, PT.rd_mk] at he
        rw [outL_within h1 h2, unl_leaf]
        refine ⟨fun x y h => ?_, fun h => ⟨fun i h3 h4 h5 h6 => ?_, rfl⟩⟩
        · split at h
          · cases h
          · rename_i hne; cases h; exact ⟨hne, he⟩
        · split at h
          · rename_i heq
            rw [show i = a by omega]
            exact (List.cons.inj heq).2
          · cases h
      · obtain ⟨s1, s2, -⟩ := halfN_spec (b - a) (by omega) (by omega)
        obtain ⟨l1, l2⟩ := halfN_le (b - a) k (by omega) (by omega) hk
        rw [outL_both hcd hb h1 hk1] at hl ⊢
        obtain ⟨m, hm⟩ : ∃ m, a + halfN (b - a) = m := ⟨_, rfl⟩
        rw [hm, List.length_append] at hl ⊢
        have hdr : ∀ e ∈ ds.drop (outL a m c d).length, e.length = 32 := fun e h => hds e (List.mem_of_mem_drop h)
        have hlr : (outL m b c d).length ≤ (ds.drop (outL a m c d).length).length := by rw [List.length_drop]; omega
        have iL := ih a m ds (by omega) (by omega) (by omega) hds (by omega)
        have iR := ih m b (ds.drop (outL a m c d).length) (by omega) (by omega) hb hdr hlr
        have nL := openT_len z real part c d k a m ds hds (by omega)
        have nR := openT_len z real part c d k m b _ hdr hlr
        obtain ⟨L, hL⟩ : ∃ T, openT z real part c d (k + 1) a m ds = T := ⟨_, rfl⟩
        obtain ⟨R, hR⟩ : ∃ T, openT z real part c d (k + 1) m b (ds.drop (outL a m c d).length) = T := ⟨_, rfl⟩
        rw [openT_node _ _ _ _ _ _ _ _ _ _ h1 hk1 hm _ _ hL hR] at he ⊢
        rw [PT.od_mk, PT.rd_mk] at he
        rw [hL] at iL nL
        rw [hR] at iR nR
        rw [unl_mk]
        have both : (1 :: (L.od ++ R.od) : List UInt8) = 1 :: (L.rd ++ R.rd) → L.od = L.rd ∧ R.od = R.rd := fun h => app32 (List.cons.inj h).2 nL.1 nL.2
        split
        · rename_i heq
          obtain ⟨e1, e2⟩ := both heq
          obtain ⟨a1, a2⟩ := iL e1
          obtain ⟨b1, b2⟩ := iR e2
          refine ⟨fun x y h => ?_, fun h => ?_⟩
          · split at h
            · exact b1 x y h
            · rename_i p hp; cases h; exact a1 x y hp
          · split at h
            · rename_i hn
              obtain ⟨c1, c2⟩ := a2 hn
              obtain ⟨d1, d2⟩ := b2 h
              refine ⟨fun i h3 h4 h5 h6 => ?_, ?_⟩
              · by_cases h7 : i < m
                · exact c1 i h3 h7 h5 h6
                · exact d1 i (by omega) h4 h5 h6
              · rw [List.take_add, c2, d2]; simp [besideD]
            · cases h
        · rename_i hne
          refine ⟨fun x y h => ?_, fun h => by cases h⟩
          cases h
          exact ⟨hne, he⟩
/-- Of what is there nothing is shown. -/
theorem unl_real (z : Int) (real part : List LV) (c d : Nat) (hcd : c < d) (h3 : real.length ≤ 1000) : ∀ (k a b : Nat) (ds : List (List UInt8)), b - a ≤ 2 ^ k → a < b → b ≤ real.length → (∀ i, a ≤ i → i < b → c ≤ i → i < d → bsAt part (i - c) = bsAt real i) → ds.take (outL a b c d).length = besideD z real (outL a b c d) →
    (openT z real part c d (k + 1) a b ds).od = (openT z real part c d (k + 1) a b ds).rd ∧ unl (openT z real part c d (k + 1) a b ds) = none := by
  intro k
  induction k with
  | zero =>
    intro a b ds hk hab hb hp hd
    by_cases h1 : b ≤ c ∨ d ≤ a
    · rw [openT_apart _ _ _ _ _ _ _ _ _ h1, unl_leaf, if_pos rfl, PT.od_mk, PT.rd_mk]
      rw [outL_apart h1] at hd
      cases ds with
      | nil => simp [besideD] at hd
      | cons e t => rw [List.headD_cons]; exact ⟨by simpa [besideD] using hd, rfl⟩
    · have hk1 : b - a ≤ 1 := by simpa using hk
      have h2 := out_one hk1 hab hcd h1
      rw [openT_leaf _ _ _ _ _ _ _ _ _ h1 hk1, unl_leaf, hp a (by omega) hab h2.1 (by omega), if_pos rfl, PT.od_mk, PT.rd_mk]
      exact ⟨rfl, rfl⟩
  | succ k ih =>
    intro a b ds hk hab hb hp hd
    by_cases h1 : b ≤ c ∨ d ≤ a
    · rw [openT_apart _ _ _ _ _ _ _ _ _ h1, unl_leaf, if_pos rfl, PT.od_mk, PT.rd_mk]
      rw [outL_apart h1] at hd
      cases ds with
      | nil => simp [besideD] at hd
      | cons e t => rw [List.headD_cons]; exact ⟨by simpa [besideD] using hd, rfl⟩
    · by_cases hk1 : b - a ≤ 1
      · have h2 := out_one hk1 hab hcd h1
        rw [openT_leaf _ _ _ _ _ _ _ _ _ h1 hk1, unl_leaf, hp a (by omega) hab h2.1 (by omega), if_pos rfl, PT.od_mk, PT.rd_mk]
        exact ⟨rfl, rfl⟩
      · obtain ⟨s1, s2, -⟩ := halfN_spec (b - a) (by omega) (by omega)
        obtain ⟨l1, l2⟩ := halfN_le (b - a) k (by omega) (by omega) hk
        rw [outL_both hcd (by omega) h1 hk1] at hd
        obtain ⟨m, hm⟩ : ∃ m, a + halfN (b - a) = m := ⟨_, rfl⟩
        rw [hm, List.length_append, List.take_add, show besideD z real (outL a m c d ++ outL m b c d) = besideD z real (outL a m c d) ++ besideD z real (outL m b c d) by simp [besideD]] at hd
        have hl : (ds.take (outL a m c d).length).length = (besideD z real (outL a m c d)).length := by
          have h5 := congrArg List.length hd
          simp only [List.length_append, List.length_take, List.length_drop, besideD, List.length_map] at h5 ⊢
          omega
        obtain ⟨e1, e2⟩ := List.append_inj hd hl
        obtain ⟨a1, a2⟩ := ih a m ds (by omega) (by omega) (by omega) (fun i p q r s => hp i p (by omega) r s) e1
        obtain ⟨b1, b2⟩ := ih m b (ds.drop (outL a m c d).length) (by omega) (by omega) hb (fun i p q r s => hp i (by omega) q r s) e2
        rw [openT_node _ _ _ _ _ _ _ _ _ _ h1 hk1 hm _ _ rfl rfl, unl_mk, PT.od_mk, PT.rd_mk, a1, b1, if_pos rfl, a2]
        exact ⟨rfl, b2⟩
/-- The clash that an opening of some leaves shows. -/
def ofR (z : Int) (real part : List LV) (x : Int) (ds : List (List UInt8)) : Option (List UInt8 × List UInt8) :=
  if crB z (rootD z (bytesL real)) real.length x part ds = true then unl (openT z real part x.toNat (x.toNat + part.length) 64 0 real.length ds) else none
end Go.Proofs.YtecacjddggljgaaDoor.Sm
namespace Go.Proofs.YtecacjddggljgaaDoor.Sm
open Go.RowKit
/-- Digests from the root down, put from the left to the right. -/
def acrF : Nat → Nat → List (List UInt8) → List (List UInt8)
  | _, _, [] => []
  | n, i, q :: Q => if i < halfN n then acrF (halfN n) i Q ++ [q] else q :: acrF (n - halfN n) (i - halfN n) Q
theorem acrF_len : ∀ (Q : List (List UInt8)) (n i : Nat), (acrF n i Q).length = Q.length
  | [], _, _ => by rw [acrF]
  | q :: Q, n, i => by
    rw [acrF]
    split
    · rw [List.length_append, acrF_len Q]; rfl
    · rw [List.length_cons, acrF_len Q]; rfl
theorem acrF_mem : ∀ (Q : List (List UInt8)) (n i : Nat) (e : List UInt8), e ∈ acrF n i Q → e ∈ Q
  | [], _, _, e => by rw [acrF]; exact id
  | q :: Q, n, i, e => by
    rw [acrF]
    split
    · intro h
      rcases List.mem_append.1 h with h | h
      · exact List.mem_cons_of_mem _ (acrF_mem Q _ _ e h)
      · rw [List.mem_singleton.1 h]; exact List.mem_cons_self
    · intro h
      rcases List.mem_cons.1 h with h | h
      · rw [h]; exact List.mem_cons_self
      · exact List.mem_cons_of_mem _ (acrF_mem Q _ _ e h)
theorem acrF_inj : ∀ (Q Q' : List (List UInt8)) (n i : Nat), Q.length = Q'.length → acrF n i Q = acrF n i Q' → Q = Q'
  | [], [], _, _, _, _ => rfl
  | [], q :: Q, _, _, h, _ => by simp at h
  | q :: Q, [], _, _, h, _ => by simp at h
  | q :: Q, q' :: Q', n, i, h, he => by
    have hl : Q.length = Q'.length := by simpa using h
    rw [acrF, acrF] at he
    split at he
    · obtain ⟨e1, e2⟩ := List.append_inj he (by rw [acrF_len, acrF_len, hl])
      rw [acrF_inj Q Q' _ _ hl e1, (List.cons.inj e2).1]
    · obtain ⟨e1, e2⟩ := List.cons.inj he
      rw [acrF_inj Q Q' _ _ hl e2, e1]
theorem out_dn_len (i a b : Nat) (h1 : a ≤ i) (h2 : i < b) (hb : b ≤ 9223372036854775807) : (outL a b i (i + 1)).length = (dnL a b i).length := by
  have := (out_dn i (b - a) a b (Nat.le_refl _) h1 h2 hb).length_eq
  rw [this]; unfold spanS; rw [List.length_map]
theorem climb_nil (z : Int) (u : List UInt8) (ds : List (List UInt8)) : climbD z u [] ds = u := by unfold climbD; rw [List.zip_nil_left]; rfl
theorem acr_fill (z : Int) (part : List LV) (i : Nat) (hp : part.length = 1) : ∀ (k a b : Nat) (Q rest : List (List UInt8)), b - a ≤ 2 ^ k → a ≤ i → i < b → b ≤ 9223372036854775807 → Q.length = (dnL a b i).length →
    fillF z part i (i + 1) (k + 1) a b (acrF (b - a) (i - a) Q ++ rest) = climbD z (leafD z (bsAt part 0)) (dnL a b i).reverse Q.reverse := by
  have one : ∀ (k a b : Nat) (Q ds : List (List UInt8)), b - a ≤ 1 → a ≤ i → i < b → Q.length = (dnL a b i).length → fillF z part i (i + 1) (k + 1) a b ds = climbD z (leafD z (bsAt part 0)) (dnL a b i).reverse Q.reverse := by
    intro k a b Q ds h1 h2 h3 hQ
    rw [dnL_one i h1] at hQ ⊢
    rw [fillF, if_neg (by omega), if_pos (by omega), rootD_at z part (a - i) (b - i) (by omega) (by omega) (by omega), show a - i = 0 by omega, List.length_eq_zero_iff.1 hQ]
    simp only [List.reverse_nil, climb_nil]
  intro k
  induction k with
  | zero =>
    intro a b Q rest hk ha hb hbb hQ
    exact one 0 a b Q _ (by simpa using hk) ha hb hQ
  | succ k ih =>
    intro a b Q rest hk ha hb hbb hQ
    by_cases h1 : b - a ≤ 1
    · exact one (k + 1) a b Q _ h1 ha hb hQ
    · obtain ⟨s1, s2, -⟩ := halfN_spec (b - a) (by omega) (by omega)
      obtain ⟨l1, l2⟩ := halfN_le (b - a) k (by omega) (by omega) hk
      rw [dnL_two i (by omega) hbb] at hQ ⊢
      rw [fillF, if_neg (by omega), if_neg (by omega)]
      cases Q with
      | nil => split at hQ <;> simp at hQ
      | cons q Q =>
        rw [acrF]
        by_cases h2 : i < a + halfN (b - a)
        · rw [if_pos h2] at hQ ⊢
          have hQ' : Q.length = (dnL a (a + halfN (b - a)) i).length := by simpa using hQ
          have hI := ih a (a + halfN (b - a)) Q ([q] ++ rest) (by omega) ha h2 (by omega) hQ'
          rw [show a + halfN (b - a) - a = halfN (b - a) by omega] at hI
          rw [if_pos (by omega), List.append_assoc, hI, List.drop_left' (by rw [acrF_len, out_dn_len i a (a + halfN (b - a)) ha h2 (by omega)]; exact hQ'), fillF, if_pos (by omega), List.reverse_cons, List.reverse_cons, climb_app _ _ _ _ _ _ (by simp [hQ'])]
          simp [climbD, joinS]
        · rw [if_neg h2] at hQ ⊢
          have hQ' : Q.length = (dnL (a + halfN (b - a)) b i).length := by simpa using hQ
          have hI := ih (a + halfN (b - a)) b Q rest (by omega) (by omega) hb hbb hQ'
          rw [show b - (a + halfN (b - a)) = b - a - halfN (b - a) by omega, show i - (a + halfN (b - a)) = i - a - halfN (b - a) by omega] at hI
          rw [if_neg (by omega), fillF, if_pos (by omega), outL_apart (by omega), List.cons_append, show (q :: (acrF (b - a - halfN (b - a)) (i - a - halfN (b - a)) Q ++ rest)).drop [(a, a + halfN (b - a))].length = acrF (b - a - halfN (b - a)) (i - a - halfN (b - a)) Q ++ rest from rfl, hI, List.reverse_cons, List.reverse_cons, climb_app _ _ _ _ _ _ (by simp [hQ'])]
          simp [climbD, joinS]
theorem acr_beside (z : Int) (real : List LV) (i : Nat) : ∀ (k a b : Nat), b - a ≤ k → a ≤ i → i < b → b ≤ 9223372036854775807 → acrF (b - a) (i - a) (besideD z real (spanS (dnL a b i))) = besideD z real (outL a b i (i + 1)) := by
  intro k
  induction k with
  | zero => intro a b h1 h2 h3; omega
  | succ k ih =>
    intro a b hk ha hb hbb
    by_cases h1 : b - a ≤ 1
    · rw [dnL_one i h1, outL_within (by omega) (by omega)]; rfl
    · obtain ⟨s1, s2, -⟩ := halfN_spec (b - a) (by omega) (by omega)
      rw [dnL_two i (by omega) hbb, outL_both (by omega) hbb (by omega) h1]
      by_cases h2 : i < a + halfN (b - a)
      · have hI := ih a (a + halfN (b - a)) (by omega) ha h2 (by omega)
        rw [show a + halfN (b - a) - a = halfN (b - a) by omega] at hI
        rw [if_pos h2, outL_apart (a := a + halfN (b - a)) (b := b) (by omega)]
        show acrF (b - a) (i - a) (rootD z (bytesL (partL real (a + halfN (b - a)) b)) :: besideD z real (spanS (dnL a (a + halfN (b - a)) i))) = _
        rw [acrF, if_pos (by omega), hI]
        simp [besideD]
      · have hI := ih (a + halfN (b - a)) b (by omega) (by omega) hb hbb
        rw [show b - (a + halfN (b - a)) = b - a - halfN (b - a) by omega, show i - (a + halfN (b - a)) = i - a - halfN (b - a) by omega] at hI
        rw [if_neg h2, outL_apart (a := a) (b := a + halfN (b - a)) (by omega)]
        show acrF (b - a) (i - a) (rootD z (bytesL (partL real a (a + halfN (b - a)))) :: besideD z real (spanS (dnL (a + halfN (b - a)) b i))) = _
        rw [acrF, if_neg (by omega), hI]
        simp [besideD]
/-- The path in a range's order. -/
def acrD (n i : Nat) (ds : List (List UInt8)) : List (List UInt8) := acrF n i ds.reverse
/-- The clash that an opening of a leaf shows. -/
def ofO (z : Int) (real : List LV) (x : Int) (p : LV) (ds : List (List UInt8)) : Option (List UInt8 × List UInt8) :=
  if ckB z (rootD z (bytesL real)) real.length x p.bs ds = true then ofR z real [p] x (acrD real.length x.toNat ds) else none
theorem ck_cr (z : Int) (root : List UInt8) (n : Nat) (hn : n ≤ 9223372036854775807) (x : Int) (p : LV) (ds : List (List UInt8)) (h : ckB z root n x p.bs ds = true) : crB z root n x [p] (acrD n x.toNat ds) = true := by
  unfold ckB at h
  rw [Bool.and_eq_true, decide_eq_true_eq] at h
  obtain ⟨⟨h1, h2, h3⟩, h4⟩ := h
  rw [Int.toNat_natCast] at h3 h4
  obtain ⟨i, rfl⟩ : ∃ m : Nat, x = (m : Int) := ⟨x.toNat, by omega⟩
  rw [Int.toNat_natCast] at h3 h4
  have hi : i < n := by omega
  unfold upL at h3 h4
  rw [List.length_reverse] at h3
  unfold crB acrD
  rw [Int.toNat_natCast, Int.toNat_natCast, show i + [p].length = i + 1 from rfl]
  have hf := acr_fill z [p] i rfl 63 0 n ds.reverse [] (by have := pow63; omega) (Nat.zero_le _) hi hn (by rw [List.length_reverse, h3])
  rw [List.append_nil, Nat.sub_zero, Nat.sub_zero, List.reverse_reverse, bsAt_some (l := [p]) (i := 0) (p := p) rfl] at hf
  rw [hf, h4, Bool.and_true, decide_eq_true_eq]
  refine ⟨by simp, h1, by simp; omega, ?_⟩
  rw [acrF_len, List.length_reverse, h3, out_dn_len i 0 n (Nat.zero_le _) hi hn]
/-- What an opening of some leaves shows. -/
theorem ofR_sound (z : Int) (real part : List LV) (x : Int) (ds : List (List UInt8)) (hr : real.length ≤ 1000) (hds : ∀ e ∈ ds, e.length = 32) (h : crB z (rootD z (bytesL real)) real.length x part ds = true) :
    (∃ i : Nat, x = (i : Int) ∧ 0 < part.length ∧ i + part.length ≤ real.length ∧
      (∀ p q, ofR z real part x ds = some (p, q) → p ≠ q ∧ keptZ z p = keptZ z q) ∧
      (ofR z real part x ds = none → (∀ j, j < part.length → bsAt part j = bsAt real (i + j)) ∧ ds = rangeD z real (i : Int) ((i + part.length : Nat) : Int)) ∧
      ((∀ j, j < part.length → bsAt part j = bsAt real (i + j)) → ds = rangeD z real (i : Int) ((i + part.length : Nat) : Int) → ofR z real part x ds = none)) := by
  have hc := h
  unfold crB at h
  rw [Bool.and_eq_true, decide_eq_true_eq, Int.toNat_natCast] at h
  obtain ⟨⟨h0, h1, h2, h3⟩, h4⟩ := h
  obtain ⟨i, rfl⟩ : ∃ m : Nat, x = (m : Int) := ⟨x.toNat, by omega⟩
  rw [Int.toNat_natCast] at h3 h4
  have hp := pow63
  have e1 := openT_od z real part i (i + part.length) (by omega) (by omega) (by omega) 63 0 real.length ds (by omega) (by omega) (by omega)
  have e2 := openT_rd z real part i (i + part.length) hr 63 0 real.length ds (by omega) (by omega) (Nat.le_refl _)
  rw [partL_all] at e2
  have he : (openT z real part i (i + part.length) (63 + 1) 0 real.length ds).od = (openT z real part i (i + part.length) (63 + 1) 0 real.length ds).rd := by
    rw [e1, e2]; exact eq_of_beq h4
  obtain ⟨s1, s2⟩ := unl_sound z real part i (i + part.length) (by omega) 63 0 real.length ds (by omega) (by omega) (by omega) hds (by omega) he
  have hR : rangeD z real (i : Int) ((i + part.length : Nat) : Int) = besideD z real (outL 0 real.length i (i + part.length)) := by
    unfold rangeD
    rw [if_pos ⟨by omega, by omega, by omega⟩, Int.toNat_natCast, Int.toNat_natCast]
  have hO : ofR z real part (i : Int) ds = unl (openT z real part i (i + part.length) (63 + 1) 0 real.length ds) := by
    unfold ofR
    rw [if_pos hc, Int.toNat_natCast]
  rw [hO]
  refine ⟨i, rfl, h0, by omega, ?_⟩
  rw [hR]
  refine ⟨s1, fun hn => ?_, fun ha hb => ?_⟩
  · obtain ⟨t1, t2⟩ := s2 hn
    refine ⟨fun j hj => ?_, ?_⟩
    · have := t1 (i + j) (Nat.zero_le _) (by omega) (by omega) (by omega)
      rw [show i + j - i = j by omega] at this
      exact this
    · rw [← t2, ← h3, List.take_length]
  · refine (unl_real z real part i (i + part.length) (by omega) hr 63 0 real.length ds (by omega) (by omega) (Nat.le_refl _) (fun j a b c d => ?_) ?_).2
    · have := ha (j - i) (by omega)
      rw [show i + (j - i) = j by omega] at this
      exact this
    · rw [← h3, List.take_length]; exact hb
theorem ofR_no (z : Int) (real part : List LV) (x : Int) (ds : List (List UInt8)) (h : crB z (rootD z (bytesL real)) real.length x part ds = false) : ofR z real part x ds = none := by
  unfold ofR; rw [h]; rfl
theorem ofO_no (z : Int) (real : List LV) (x : Int) (p : LV) (ds : List (List UInt8)) (h : ckB z (rootD z (bytesL real)) real.length x p.bs ds = false) : ofO z real x p ds = none := by
  unfold ofO; rw [h]; rfl
theorem ofO_sound (z : Int) (real : List LV) (x : Int) (p : LV) (ds : List (List UInt8)) (hr : real.length ≤ 1000) (hds : ∀ e ∈ ds, e.length = 32) (h : ckB z (rootD z (bytesL real)) real.length x p.bs ds = true) :
    (∃ i : Nat, x = (i : Int) ∧ i < real.length ∧
      (∀ a b, ofO z real x p ds = some (a, b) → a ≠ b ∧ keptZ z a = keptZ z b) ∧
      (ofO z real x p ds = none ↔ p.bs = bsAt real i ∧ ds = pathD z real (i : Int))) := by
  have hc := ck_cr z _ real.length (by omega) x p ds h
  have hO : ofO z real x p ds = ofR z real [p] x (acrD real.length x.toNat ds) := by unfold ofO; rw [if_pos h]
  obtain ⟨i, rfl, -, hi, s1, s2, s3⟩ := ofR_sound z real [p] x (acrD real.length x.toNat ds) hr (fun e he => hds e (List.mem_reverse.1 (acrF_mem _ _ _ e he))) hc
  have hi : i < real.length := by have : [p].length = 1 := rfl; omega
  rw [hO]
  rw [Int.toNat_natCast] at s1 s2 s3 ⊢
  unfold ckB at h
  rw [Bool.and_eq_true, decide_eq_true_eq, Int.toNat_natCast, Int.toNat_natCast] at h
  have h3 := h.1.2.2
  unfold upL at h3
  rw [List.length_reverse] at h3
  have hP : pathD z real (i : Int) = besideD z real (spanS (upL real.length i)) := by
    unfold pathD; rw [if_pos ⟨by omega, by omega⟩, Int.toNat_natCast]
  have hR : rangeD z real (i : Int) ((i + [p].length : Nat) : Int) = besideD z real (outL 0 real.length i (i + 1)) := by
    unfold rangeD
    rw [if_pos ⟨by omega, by simp; omega, by simp; omega⟩, Int.toNat_natCast, Int.toNat_natCast]; rfl
  have hB := acr_beside z real i real.length 0 real.length (by omega) (Nat.zero_le _) hi (by omega)
  rw [Nat.sub_zero, Nat.sub_zero] at hB
  have hrev : (pathD z real (i : Int)).reverse = besideD z real (spanS (dnL 0 real.length i)) := by
    rw [hP]; unfold upL besideD spanS; rw [← List.map_reverse, ← List.map_reverse, List.reverse_reverse]
  refine ⟨i, rfl, hi, s1, fun hn => ?_, fun hn => ?_⟩
  · obtain ⟨t1, t2⟩ := s2 hn
    refine ⟨?_, ?_⟩
    · have := t1 0 (by simp)
      rw [bsAt_some (l := [p]) (i := 0) (p := p) rfl] at this
      exact this
    · rw [hR, ← hB, ← hrev] at t2
      have hl : ds.reverse.length = (pathD z real (i : Int)).reverse.length := by
        rw [hrev]; simp [besideD, spanS, h3]
      have := acrF_inj _ _ _ _ hl t2
      rw [← List.reverse_reverse ds, this, List.reverse_reverse]
  · refine s3 (fun j hj => ?_) ?_
    · have : j = 0 := by simp at hj; exact hj
      subst this
      rw [bsAt_some (l := [p]) (i := 0) (p := p) rfl]
      exact hn.1
    · rw [hR, ← hB, ← hrev, hn.2]; rfl
end Go.Proofs.YtecacjddggljgaaDoor.Sm
