/-
  Tables as there may be, counts, and what lies deeper: plain mathematics.
-/
import Derived.Test.YtnkbhojflcckmaaPkV
namespace Go.Proofs.Ytnkbhojflcckmaa
open Go.RowKit
set_option linter.unusedSectionVars false
/-- A table that may be. -/
def RightT (x : Tb) : Prop := 0 ≤ x.lv ∧ x.lv ≤ 3 ∧ 1 ≤ x.ct ∧ x.ct ≤ 64 ∧ cmpS x.first x.last ≤ 0
theorem rgt_lv (x : Tb) : (rgt x).lv = x.lv % 4 := by unfold rgt; split <;> rfl
theorem rgt_ct (x : Tb) : (rgt x).ct = 1 + x.ct % 64 := by unfold rgt; split <;> rfl
theorem rgt_right (x : Tb) : RightT (rgt x) := by
  refine ⟨?_, ?_, ?_, ?_, ?_⟩
  · rw [rgt_lv]; omega
  · rw [rgt_lv]; omega
  · rw [rgt_ct]; omega
  · rw [rgt_ct]; omega
  · unfold rgt
    split
    · rename_i h
      show cmpS x.last x.first ≤ 0
      have := cmpS_ord.anti x.first x.last
      omega
    · rename_i h
      show cmpS x.first x.last ≤ 0
      omega
theorem mem_rgtN {ts : List Tb} {l i : Nat} {x : Tb} (h : x ∈ rgtN ts l i) : RightT x ∧ x.lv = l := by
  simp only [rgtN, List.mem_map, List.mem_filter, decide_eq_true_eq] at h
  obtain ⟨j, ⟨_, h2⟩, rfl⟩ := h
  exact ⟨rgt_right _, by rw [rgt_lv]; exact h2⟩
theorem right_mem {ts : List Tb} {x : Tb} (h : x ∈ rightL ts) : RightT x := by
  simp only [rightL, rightN, List.mem_flatMap, List.mem_range] at h
  obtain ⟨l, _, h2⟩ := h
  exact (mem_rgtN h2).1
theorem rightN_sorted (ts : List Tb) (m : Nat) : ∀ k, (rightN ts m k).Pairwise (fun a b => a.lv ≤ b.lv) ∧ ∀ x ∈ rightN ts m k, x.lv < k
  | 0 => by simp [rightN]
  | k + 1 => by
    obtain ⟨h1, h2⟩ := rightN_sorted ts m k
    rw [rightN_succ]
    refine ⟨List.pairwise_append.2 ⟨h1, ?_, fun a ha b hb => ?_⟩, fun x hx => ?_⟩
    · rw [List.pairwise_iff_getElem]
      intro i j hi hj _
      rw [(mem_rgtN (List.getElem_mem hi)).2, (mem_rgtN (List.getElem_mem hj)).2]
      omega
    · rw [(mem_rgtN hb).2]; have := h2 a ha; omega
    · rcases List.mem_append.1 hx with h | h
      · have := h2 x h; omega
      · rw [(mem_rgtN h).2]; omega
theorem right_sorted (ts : List Tb) : (rightL ts).Pairwise (fun a b => a.lv ≤ b.lv) := (rightN_sorted ts _ 4).1
theorem right_len (ts : List Tb) : (rightL ts).length ≤ 600 := by
  have := rightN_len ts (min ts.length 150) 4
  unfold rightL
  omega
theorem getD_mem {ts : List Tb} {j : Nat} (h : j < ts.length) : ts.getD j zT ∈ ts := by rw [getD_at ts j zT h]; exact List.getElem_mem h
theorem range_getD (ts : List Tb) : (List.range ts.length).map (fun j => ts.getD j zT) = ts := by
  apply List.ext_getElem (by simp)
  intro i h1 h2
  simp [h2]
theorem plc_count (p : Tb → Bool) (ts : List Tb) : (plc p ts ts.length).length = ts.countP p := by
  unfold plc
  have h : ts.countP p = ((List.range ts.length).map (fun j => ts.getD j zT)).countP p := by rw [range_getD]
  rw [h, List.countP_map, List.countP_eq_length_filter]
  rfl
/-- How many are of a level. -/
def cnt (ts : List Tb) (l : Int) : Nat := ts.countP (onB l)
theorem cntN_all (ts : List Tb) (l : Int) : cntN ts l ts.length = cnt ts l := plc_count _ _
theorem pickF_cnt (ts : List Tb) : pickF ts = if 4 < cnt ts 0 then some 0 else if 8 < cnt ts 1 then some 1 else if 32 < cnt ts 2 then some 2 else none := by
  unfold pickF
  rw [cntN_all, cntN_all, cntN_all]
theorem pickF_none_iff (ts : List Tb) : pickF ts = none ↔ cnt ts 0 ≤ 4 ∧ cnt ts 1 ≤ 8 ∧ cnt ts 2 ≤ 32 := by
  rw [pickF_cnt]
  constructor
  · intro h
    split at h
    · cases h
    · split at h
      · cases h
      · split at h
        · cases h
        · omega
  · rintro ⟨h0, h1, h2⟩
    rw [if_neg (by omega), if_neg (by omega), if_neg (by omega)]
theorem none_less {T U : List Tb} (h : pickF T = none) (hs : U.Sublist T) : pickF U = none := by
  rw [pickF_none_iff] at h ⊢
  have h0 : cnt U 0 ≤ cnt T 0 := hs.countP_le
  have h1 : cnt U 1 ≤ cnt T 1 := hs.countP_le
  have h2 : cnt U 2 ≤ cnt T 2 := hs.countP_le
  omega
/-- The ones that are not deeper stand ahead. -/
theorem sorted_cut (k : Int) : ∀ {T : List Tb}, T.Pairwise (fun a b => a.lv ≤ b.lv) → ∃ V, T = T.filter (fun x => decide (x.lv ≤ k)) ++ V ∧ ∀ x ∈ V, k < x.lv
  | [], _ => ⟨[], by simp⟩
  | x :: l, h => by
    rw [List.pairwise_cons] at h
    by_cases hx : x.lv ≤ k
    · obtain ⟨V, h1, h2⟩ := sorted_cut k h.2
      refine ⟨V, ?_, h2⟩
      rw [List.filter_cons_of_pos (by exact decide_eq_true hx), List.cons_append, ← h1]
    · refine ⟨x :: l, ?_, ?_⟩
      · rw [List.filter_cons_of_neg (by rw [decide_eq_false hx]; simp)]
        have : l.filter (fun x => decide (x.lv ≤ k)) = [] := by
          rw [List.filter_eq_nil_iff]
          intro y hy
          have := h.1 y hy
          rw [decide_eq_false (by omega)]; simp
        rw [this]; rfl
      · intro y hy
        rcases List.mem_cons.1 hy with rfl | hy
        · omega
        · have := h.1 y hy; omega
section
variable {U V : List Tb}
theorem app_at {j : Nat} (h : j < U.length) : (U ++ V).getD j zT = U.getD j zT := by
  rw [List.getD_eq_getElem?_getD, List.getD_eq_getElem?_getD, List.getElem?_append_left h]
theorem app_far {j : Nat} (h : j < (U ++ V).length) (h2 : U.length ≤ j) : (U ++ V).getD j zT ∈ V := by
  rw [List.length_append] at h
  rw [List.getD_eq_getElem?_getD, List.getElem?_append_right h2, List.getElem?_eq_getElem (by omega)]
  exact List.getElem_mem _
theorem plc_app (p : Tb → Bool) {i : Nat} (h : i ≤ U.length) : plc p (U ++ V) i = plc p U i := by
  unfold plc
  apply List.filter_congr
  intro j hj
  rw [app_at (by have := List.mem_range.1 hj; omega)]
theorem mine_app {f j : Nat} (h : j < U.length) : mineB (U ++ V) f j = mineB U f j := by
  unfold mineB
  rw [app_at h, plc_app _ (by omega)]
theorem upN_app {f i : Nat} (h : i ≤ U.length) : upN (U ++ V) f i = upN U f i := by
  unfold upN
  apply List.filter_congr
  intro j hj
  exact mine_app (by have := List.mem_range.1 hj; omega)
theorem mine_far {f j : Nat} (hV : ∀ x ∈ V, (f : Int) < x.lv) (h : j < (U ++ V).length) (h2 : U.length ≤ j) : mineB (U ++ V) f j = false := by
  unfold mineB
  rw [decide_eq_false (by have := hV _ (app_far h h2); omega)]; rfl
theorem upN_far {f : Nat} (hV : ∀ x ∈ V, (f : Int) < x.lv) : ∀ k, k ≤ V.length → upN (U ++ V) f (U.length + k) = upN U f U.length
  | 0, _ => upN_app (Nat.le_refl _)
  | k + 1, h => by
    rw [← Nat.add_assoc, upN_succ, if_neg (by rw [mine_far hV (by rw [List.length_append]; omega) (by omega)]; simp), upN_far hV k (by omega)]
theorem upL_app {f : Nat} (hV : ∀ x ∈ V, (f : Int) < x.lv) : upL (U ++ V) f = upL U f := by
  unfold upL
  rw [List.length_append]
  exact upN_far hV _ (Nat.le_refl _)
theorem up_tabs {f : Nat} (hV : ∀ x ∈ V, (f : Int) < x.lv) : tabsAt (U ++ V) (upN (U ++ V) f (U ++ V).length) = tabsAt U (upN U f U.length) := by
  have h : upL (U ++ V) f = upL U f := upL_app hV
  unfold upL at h
  rw [h]
  unfold tabsAt
  apply List.map_congr_left
  intro j hj
  exact app_at (mem_upN.1 hj).1
theorem loP_app {f : Nat} (hV : ∀ x ∈ V, (f : Int) < x.lv) : loP (U ++ V) f (U ++ V).length = loP U f U.length := by unfold loP; rw [up_tabs hV]
theorem hiP_app {f : Nat} (hV : ∀ x ∈ V, (f : Int) < x.lv) : hiP (U ++ V) f (U ++ V).length = hiP U f U.length := by unfold hiP; rw [up_tabs hV]
theorem low_app {f j : Nat} (hV : ∀ x ∈ V, (f : Int) < x.lv) (h : j < U.length) : lowB (U ++ V) f j = lowB U f j := by
  unfold lowB
  rw [loP_app hV, hiP_app hV, app_at h]
theorem low_far {f j : Nat} (hV : ∀ x ∈ V, (f : Int) + 1 < x.lv) (h : j < (U ++ V).length) (h2 : U.length ≤ j) : lowB (U ++ V) f j = false := by
  unfold lowB touB
  rw [decide_eq_false (by have := hV _ (app_far h h2); omega)]; rfl
theorem inN_app {f i : Nat} (hV : ∀ x ∈ V, (f : Int) + 1 < x.lv) (h : i ≤ U.length) : inN (U ++ V) f i = inN U f i := by
  unfold inN
  apply List.filter_congr
  intro j hj
  have hj2 : j < U.length := by have := List.mem_range.1 hj; omega
  rw [mine_app hj2, low_app (fun x hx => by have := hV x hx; omega) hj2]
theorem inN_far {f : Nat} (hV : ∀ x ∈ V, (f : Int) + 1 < x.lv) : ∀ k, k ≤ V.length → inN (U ++ V) f (U.length + k) = inN U f U.length
  | 0, _ => inN_app hV (Nat.le_refl _)
  | k + 1, h => by
    rw [← Nat.add_assoc, inN_succ, mine_far (fun x hx => by have := hV x hx; omega) (by rw [List.length_append]; omega) (by omega), low_far hV (by rw [List.length_append]; omega) (by omega), inN_far hV k (by omega)]
    rfl
theorem inL_app {f : Nat} (hV : ∀ x ∈ V, (f : Int) + 1 < x.lv) : inL (U ++ V) f = inL U f := by
  unfold inL
  rw [List.length_append]
  exact inN_far hV _ (Nat.le_refl _)
theorem cnt_app {l : Int} (hV : ∀ x ∈ V, l < x.lv) : cnt (U ++ V) l = cnt U l := by
  unfold cnt
  have h0 : V.countP (onB l) = 0 := List.countP_eq_zero.2 (fun x hx => by have := hV x hx; simp only [onB, decide_eq_true_eq]; omega)
  rw [List.countP_append, h0, Nat.add_zero]
theorem pickF_lt {T : List Tb} {f : Nat} (h : pickF T = some f) : f < 3 := by
  rw [pickF_cnt] at h
  split at h
  · cases h; omega
  · split at h
    · cases h; omega
    · split at h
      · cases h; omega
      · cases h
/-- What lies deeper does not matter. -/
theorem pick_app {f : Nat} (h : pickF (U ++ V) = some f) (hV : ∀ x ∈ V, (f : Int) + 1 < x.lv) : pickF U = some f := by
  have hf := pickF_lt h
  rw [pickF_cnt] at h ⊢
  match f, hf with
  | 0, _ =>
    rw [cnt_app (l := 0) (fun x hx => by have := hV x hx; omega)] at h
    split at h
    · rename_i h1; rw [if_pos h1]
    · split at h
      · cases h
      · split at h <;> cases h
  | 1, _ =>
    rw [cnt_app (l := 0) (fun x hx => by have := hV x hx; omega), cnt_app (l := 1) (fun x hx => by have := hV x hx; omega)] at h
    split at h
    · cases h
    · rename_i h1
      rw [if_neg h1]
      split at h
      · rename_i h2; rw [if_pos h2]
      · split at h <;> cases h
  | 2, _ =>
    rw [cnt_app (l := 0) (fun x hx => by have := hV x hx; omega), cnt_app (l := 1) (fun x hx => by have := hV x hx; omega), cnt_app (l := 2) (fun x hx => by have := hV x hx; omega)] at h
    exact h
end
/-- PickAlone's mathematics. -/
theorem alone_math {T : List Tb} (hs : T.Pairwise (fun a b => a.lv ≤ b.lv)) {f : Nat} (h : pickF T = some f) : pickF (T.filter (fun x => decide (x.lv ≤ ((f + 1 : Nat) : Int)))) = some f ∧ inL (T.filter (fun x => decide (x.lv ≤ ((f + 1 : Nat) : Int)))) f = inL T f := by
  obtain ⟨V, h1, h2⟩ := sorted_cut ((f + 1 : Nat) : Int) hs
  have h3 : ∀ x ∈ V, (f : Int) + 1 < x.lv := fun x hx => by have := h2 x hx; omega
  generalize T.filter (fun x => decide (x.lv ≤ ((f + 1 : Nat) : Int))) = U at *
  subst h1
  exact ⟨pick_app h h3, (inL_app h3).symm⟩
end Go.Proofs.Ytnkbhojflcckmaa
