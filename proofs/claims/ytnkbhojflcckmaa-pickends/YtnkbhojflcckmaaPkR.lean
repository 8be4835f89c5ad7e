/-
  Which tables are picked: plain mathematics.
-/
import Derived.Test.YtnkbhojflcckmaaPkO
import Derived.Test.YtnkbhojflcckmaaPkQ
import Derived.Test.YtnkbhojflcckmaaPkJ
namespace Go.Proofs.Ytnkbhojflcckmaa
open Go.RowKit
set_option linter.unusedSectionVars false
/-- Of this level, and (but of level 0) the first one. -/
def mineB (ts : List Tb) (f : Nat) (j : Nat) : Bool := decide ((ts.getD j zT).lv = f) && (decide (f = 0) || (plc (onB f) ts j).isEmpty)
/-- The ones that go, among the first. -/
def upN (ts : List Tb) (f i : Nat) : List Nat := (List.range i).filter (mineB ts f)
def upL (ts : List Tb) (f : Nat) : List Nat := upN ts f ts.length
theorem upN_succ (ts : List Tb) (f i : Nat) : upN ts f (i + 1) = if mineB ts f i then upN ts f i ++ [i] else upN ts f i := by
  unfold upN
  rw [List.range_succ, List.filter_append]
  by_cases h : mineB ts f i = true
  · rw [if_pos h, List.filter_cons_of_pos h, List.filter_nil]
  · rw [if_neg h, List.filter_cons_of_neg h, List.filter_nil, List.append_nil]
theorem mem_upN {ts : List Tb} {f i j : Nat} : j ∈ upN ts f i ↔ j < i ∧ mineB ts f j = true := by simp [upN, List.mem_filter]
theorem upN_zero (ts : List Tb) (i : Nat) : upN ts 0 i = plc (onB 0) ts i := by
  unfold upN plc
  congr 1
  funext j
  simp [mineB, onB]
theorem upN_pos (ts : List Tb) (f : Nat) (hf : f ≠ 0) : ∀ i, upN ts f i = (plc (onB f) ts i).take 1
  | 0 => by simp [upN, plc]
  | i + 1 => by
    rw [upN_succ, plc_succ, upN_pos ts f hf i]
    by_cases h : (ts.getD i zT).lv = f
    · by_cases h2 : (plc (onB f) ts i) = []
      · rw [if_pos (by simp only [mineB, h2, h]; simp), if_pos (by simpa [onB] using h), h2]; rfl
      · have h3 : ∃ a l, plc (onB f) ts i = a :: l := by
          cases h9 : plc (onB f) ts i with
          | nil => exact absurd h9 h2
          | cons a l => exact ⟨a, l, rfl⟩
        obtain ⟨a, l, h3⟩ := h3
        rw [if_neg (by simp only [mineB, h3]; simp [hf]), if_pos (by simpa [onB] using h), h3]
        rfl
    · rw [if_neg (by simp only [mineB]; rw [decide_eq_false h]; simp), if_neg (by simpa [onB] using h)]
theorem upN_le (ts : List Tb) (f i : Nat) : (upN ts f i).length ≤ i := by
  have := List.length_filter_le (mineB ts f) (List.range i)
  rwa [List.length_range] at this
theorem upN_nil {ts : List Tb} {f i : Nat} (h : plc (onB f) ts i ≠ []) : upN ts f i ≠ [] := by
  by_cases hf : f = 0
  · subst hf; rwa [upN_zero]
  · rw [upN_pos ts f hf]
    cases h9 : plc (onB f) ts i with
    | nil => exact absurd h9 h
    | cons a l => simp
theorem upN_empty {ts : List Tb} {f i : Nat} (h : plc (onB f) ts i = []) : upN ts f i = [] := by
  by_cases hf : f = 0
  · subst hf; rwa [upN_zero]
  · rw [upN_pos ts f hf, h]; rfl
theorem upN_isEmpty (ts : List Tb) (f i : Nat) : (upN ts f i).isEmpty = (plc (onB f) ts i).isEmpty := by
  by_cases h : plc (onB f) ts i = []
  · rw [h, upN_empty h]
  · have := upN_nil h
    cases h1 : upN ts f i with
    | nil => exact absurd h1 this
    | cons a l =>
      cases h2 : plc (onB f) ts i with
      | nil => exact absurd h2 h
      | cons b m => rfl
/-- The range of those that go. -/
def loP (ts : List Tb) (f i : Nat) : ByteArray := loT (tabsAt ts (upN ts f i))
def hiP (ts : List Tb) (f i : Nat) : ByteArray := hiT (tabsAt ts (upN ts f i))
theorem loT_one (x : Tb) : loT [x] = x.first := by unfold loT; rw [show [x].length = 1 from rfl, minN_one]; rfl
theorem hiT_one (x : Tb) : hiT [x] = x.last := by unfold hiT; rw [show [x].length = 1 from rfl, maxN_one]; rfl
theorem minN_all (l : List ByteArray) (x : ByteArray) (n : Nat) (hn : n = l.length) (h : 1 ≤ n) : minN (l ++ [x]) (n + 1) = minS (minN l n) x := by
  subst hn
  rw [minN_succ _ _ (by simp) h]
  congr 1
  · unfold minN
    rw [List.take_append_of_le_length (by omega), List.getD_eq_getElem?_getD, List.getD_eq_getElem?_getD, List.getElem?_append_left (by omega)]
  · rw [List.getD_eq_getElem?_getD, List.getElem?_append_right (by omega), Nat.sub_self]; rfl
theorem maxN_all (l : List ByteArray) (x : ByteArray) (n : Nat) (hn : n = l.length) (h : 1 ≤ n) : maxN (l ++ [x]) (n + 1) = maxS (maxN l n) x := by
  subst hn
  rw [maxN_succ _ _ (by simp) h]
  congr 1
  · unfold maxN
    rw [List.take_append_of_le_length (by omega), List.getD_eq_getElem?_getD, List.getD_eq_getElem?_getD, List.getElem?_append_left (by omega)]
  · rw [List.getD_eq_getElem?_getD, List.getElem?_append_right (by omega), Nat.sub_self]; rfl
theorem loT_snoc (xs : List Tb) (x : Tb) (h : xs ≠ []) : loT (xs ++ [x]) = minS (loT xs) x.first := by
  unfold loT
  rw [List.map_append, List.length_append]
  exact minN_all _ _ _ (by simp) (List.length_pos_iff.2 h)
theorem hiT_snoc (xs : List Tb) (x : Tb) (h : xs ≠ []) : hiT (xs ++ [x]) = maxS (hiT xs) x.last := by
  unfold hiT
  rw [List.map_append, List.length_append]
  exact maxN_all _ _ _ (by simp) (List.length_pos_iff.2 h)
theorem tabsAt_app (ts : List Tb) (a : List Nat) (i : Nat) : tabsAt ts (a ++ [i]) = tabsAt ts a ++ [ts.getD i zT] := by simp [tabsAt]
theorem tabsAt_nil {ts : List Tb} {a : List Nat} (h : a ≠ []) : tabsAt ts a ≠ [] := by simpa [tabsAt] using h
/-- The document's own reckoning of the range, step by step. -/
theorem loP_succ (ts : List Tb) (f i : Nat) : loP ts f (i + 1) = if mineB ts f i then (if (upN ts f i).isEmpty then (ts.getD i zT).first else minS (loP ts f i) (ts.getD i zT).first) else loP ts f i := by
  unfold loP
  rw [upN_succ]
  by_cases h : mineB ts f i = true
  · rw [if_pos h, if_pos h, tabsAt_app]
    by_cases h2 : upN ts f i = []
    · rw [h2]; exact loT_one _
    · rw [if_neg (by simpa using h2)]; exact loT_snoc _ _ (tabsAt_nil h2)
  · rw [if_neg h, if_neg h]
theorem hiP_succ (ts : List Tb) (f i : Nat) : hiP ts f (i + 1) = if mineB ts f i then (if (upN ts f i).isEmpty then (ts.getD i zT).last else maxS (hiP ts f i) (ts.getD i zT).last) else hiP ts f i := by
  unfold hiP
  rw [upN_succ]
  by_cases h : mineB ts f i = true
  · rw [if_pos h, if_pos h, tabsAt_app]
    by_cases h2 : upN ts f i = []
    · rw [h2]; exact hiT_one _
    · rw [if_neg (by simpa using h2)]; exact hiT_snoc _ _ (tabsAt_nil h2)
  · rw [if_neg h, if_neg h]
/-- Those that are met. -/
def lowB (ts : List Tb) (f : Nat) (j : Nat) : Bool := touB ((f : Int) + 1) (loP ts f ts.length) (hiP ts f ts.length) (ts.getD j zT)
def inN (ts : List Tb) (f i : Nat) : List Nat := (List.range i).filter fun j => mineB ts f j || lowB ts f j
def inL (ts : List Tb) (f : Nat) : List Nat := inN ts f ts.length
def lowL (ts : List Tb) (f : Nat) : List Nat := plc (touB ((f : Int) + 1) (loP ts f ts.length) (hiP ts f ts.length)) ts ts.length
theorem inN_succ (ts : List Tb) (f i : Nat) : inN ts f (i + 1) = if mineB ts f i || lowB ts f i then inN ts f i ++ [i] else inN ts f i := by
  unfold inN
  rw [List.range_succ, List.filter_append]
  by_cases h : (mineB ts f i || lowB ts f i) = true
  · rw [if_pos h, List.filter_cons_of_pos (by exact h), List.filter_nil]
  · rw [if_neg h, List.filter_cons_of_neg (by exact h), List.filter_nil, List.append_nil]
theorem inN_le (ts : List Tb) (f i : Nat) : (inN ts f i).length ≤ i := by
  have := List.length_filter_le (fun j => mineB ts f j || lowB ts f j) (List.range i)
  rwa [List.length_range] at this
theorem mem_inN {ts : List Tb} {f i j : Nat} : j ∈ inN ts f i ↔ j < i ∧ (mineB ts f j = true ∨ lowB ts f j = true) := by simp [inN, List.mem_filter]
theorem mine_not_low {ts : List Tb} {f j : Nat} (h : mineB ts f j = true) : lowB ts f j = false := by
  have h1 : (ts.getD j zT).lv = f := by
    simp only [mineB, Bool.and_eq_true, decide_eq_true_eq] at h; exact h.1
  have h2 : decide ((ts.getD j zT).lv = (f : Int) + 1) = false := decide_eq_false (by omega)
  unfold lowB touB
  rw [h2]; rfl
theorem in_perm (ts : List Tb) (f : Nat) : (upL ts f ++ lowL ts f).Perm (inL ts f) := by
  have h := List.filter_append_perm (mineB ts f) (inL ts f)
  have e1 : (inL ts f).filter (mineB ts f) = upL ts f := by
    unfold inL inN upL upN
    rw [List.filter_filter]
    congr 1; funext j
    cases mineB ts f j <;> simp
  have e2 : (inL ts f).filter (fun j => !(mineB ts f j)) = lowL ts f := by
    unfold inL inN lowL plc
    rw [List.filter_filter]
    congr 1; funext j
    cases h2 : mineB ts f j
    · simp [lowB]
    · have := mine_not_low h2
      simp only [lowB] at this
      rw [this]; rfl
  rw [e1, e2] at h
  exact h
theorem inL_rises (ts : List Tb) (f : Nat) : (inL ts f).Pairwise (· < ·) := (List.pairwise_lt_range).filter _
/-- Sorted it is the row of the places. -/
theorem in_sorted (ts : List Tb) (f : Nat) (l : List Int) (hl : l = (upL ts f ++ lowL ts f).map (fun i : Nat => (i : Int))) : (l.mergeSort fun x y => decide (x ≤ y)) = (inL ts f).map (fun i : Nat => (i : Int)) := by
  subst hl
  refine List.Perm.eq_of_pairwise (le := fun x y => decide (x ≤ y) = true) ?_ ?_ ?_ ((List.mergeSort_perm _ _).trans ((in_perm ts f).map _))
  · intro a b _ _ h1 h2
    simp only [decide_eq_true_eq] at h1 h2
    omega
  · refine List.pairwise_mergeSort ?_ ?_ _
    · intro a b c h1 h2
      simp only [decide_eq_true_eq] at h1 h2 ⊢
      omega
    · intro a b
      by_cases h : a ≤ b
      · simp [h]
      · simp [show b ≤ a by omega]
  · rw [List.pairwise_map]
    refine (inL_rises ts f).imp ?_
    intro a b h
    simp only [decide_eq_true_eq]; omega
/-- Which level has too many. -/
def pickF (ts : List Tb) : Option Nat := if 4 < cntN ts 0 ts.length then some 0 else if 8 < cntN ts 1 ts.length then some 1 else if 32 < cntN ts 2 ts.length then some 2 else none
def pkL (ts : List Tb) : List Nat := match pickF ts with | none => [] | some f => inL ts f
def pkTo (ts : List Tb) : Nat := match pickF ts with | none => 0 | some f => f + 1
def pkOk (ts : List Tb) : Bool := (pickF ts).isSome
theorem pkL_len (ts : List Tb) : (pkL ts).length ≤ ts.length := by
  unfold pkL
  split
  · simp
  · exact inN_le _ _ _
theorem pk_of {ts : List Tb} {f : Nat} (h : pickF ts = some f) : pkL ts = inL ts f ∧ pkTo ts = f + 1 ∧ pkOk ts = true := by unfold pkL pkTo pkOk; rw [h]; exact ⟨rfl, rfl, rfl⟩
theorem pk_none {ts : List Tb} (h : pickF ts = none) : pkL ts = [] ∧ pkTo ts = 0 ∧ pkOk ts = false := by unfold pkL pkTo pkOk; rw [h]; exact ⟨rfl, rfl, rfl⟩
/-- Level by level. -/
theorem pickF_at (ts : List Tb) (i : Nat) (hi : i < 3) (h : ∀ j : Nat, j < i → (cntN ts j ts.length : Int) ≤ capI j) (hc : ¬ (cntN ts i ts.length : Int) ≤ capI i) : pickF ts = some i := by
  unfold pickF
  match i, hi with
  | 0, _ => 
    have h9 : ¬ (cntN ts 0 ts.length : Int) ≤ 4 := hc
    rw [if_pos (by omega)]
  | 1, _ =>
    have h0 : (cntN ts 0 ts.length : Int) ≤ 4 := h 0 (by omega)
    have h9 : ¬ (cntN ts 1 ts.length : Int) ≤ 8 := hc
    rw [if_neg (by omega), if_pos (by omega)]
  | 2, _ =>
    have h0 : (cntN ts 0 ts.length : Int) ≤ 4 := h 0 (by omega)
    have h1 : (cntN ts 1 ts.length : Int) ≤ 8 := h 1 (by omega)
    have h9 : ¬ (cntN ts 2 ts.length : Int) ≤ 32 := hc
    rw [if_neg (by omega), if_neg (by omega), if_pos (by omega)]
theorem pickF_none (ts : List Tb) (h : ∀ j : Nat, j < 3 → (cntN ts j ts.length : Int) ≤ capI j) : pickF ts = none := by
  have h0 : (cntN ts 0 ts.length : Int) ≤ 4 := h 0 (by omega)
  have h1 : (cntN ts 1 ts.length : Int) ≤ 8 := h 1 (by omega)
  have h2 : (cntN ts 2 ts.length : Int) ≤ 32 := h 2 (by omega)
  unfold pickF
  rw [if_neg (by omega), if_neg (by omega), if_neg (by omega)]
end Go.Proofs.Ytnkbhojflcckmaa
