/-
  Places, rising; of a right list two tables of one level above 0 lie apart: plain mathematics.
-/
import Derived.Test.YtiimmknnlciljaaDoorSuJ
namespace Go.Proofs.YtiimmknnlciljaaDoor
open Go.RowKit Go.Sort Go.Shelf
set_option linter.unusedSectionVars false
variable [Inhabited E] [DecidableEq E]
theorem plc_mem {p : Tb → Bool} {ts : List Tb} {n i : Nat} : i ∈ plc p ts n ↔ i < n ∧ p (ts.getD i zT) = true := by
  unfold plc; rw [List.mem_filter, List.mem_range]
theorem plc_sorted (p : Tb → Bool) (ts : List Tb) (n : Nat) : (plc p ts n).Pairwise (· < ·) := List.Pairwise.filter _ List.pairwise_lt_range
theorem plc_get {p : Tb → Bool} {ts : List Tb} {n i : Nat} (h : i < (plc p ts n).length) : (plc p ts n).getD i 0 < n ∧ p (ts.getD ((plc p ts n).getD i 0) zT) = true := by
  rw [getD_at _ i 0 h]
  exact plc_mem.1 (List.getElem_mem h)
theorem plc_lt {p : Tb → Bool} {ts : List Tb} {n i j : Nat} (hij : i < j) (h : j < (plc p ts n).length) : (plc p ts n).getD i 0 < (plc p ts n).getD j 0 := by
  rw [getD_at _ i 0 (by omega), getD_at _ j 0 h]
  exact List.pairwise_iff_getElem.1 (plc_sorted p ts n) i j (by omega) h hij
theorem cov_ov (key : ByteArray) (x : Tb) (h : covP key x = true) : ovP key ByteArray.empty x = true := by
  unfold covP covB at h
  simp only [Bool.and_eq_true, decide_eq_true_eq] at h
  unfold ovP ovB belB
  rw [decide_eq_true (rfl : ByteArray.empty = ByteArray.empty), decide_eq_true h.2]
  rfl
/-- Where each place that covers stands among those that overlap. -/
theorem plc_in (key : ByteArray) (ts : List Tb) (n : Nat) : ∃ T : Nat → Nat, ∀ i, i < (plc (covP key) ts n).length → T i < (plc (ovP key ByteArray.empty) ts n).length ∧ (plc (ovP key ByteArray.empty) ts n).getD (T i) 0 = (plc (covP key) ts n).getD i 0 := by
  have h : ∀ i, i < (plc (covP key) ts n).length → ∃ t, t < (plc (ovP key ByteArray.empty) ts n).length ∧ (plc (ovP key ByteArray.empty) ts n).getD t 0 = (plc (covP key) ts n).getD i 0 := fun i hi => by
    have h1 := plc_get hi
    have h2 : (plc (covP key) ts n).getD i 0 ∈ plc (ovP key ByteArray.empty) ts n := plc_mem.2 ⟨h1.1, cov_ov key _ h1.2⟩
    obtain ⟨t, ht, he⟩ := List.mem_iff_getElem.1 h2
    exact ⟨t, ht, by rw [getD_at _ t 0 ht, he]⟩
  exact ⟨fun i => if hi : i < (plc (covP key) ts n).length then Classical.choose (h i hi) else 0, fun i hi => by simp only [dif_pos hi]; exact Classical.choose_spec (h i hi)⟩
theorem lvl_step {ts : List Tb} (h : rightT ts) (p : Nat) : ∀ d, p + d + 1 < ts.length → (ts.getD p zT).lv ≤ (ts.getD (p + d + 1) zT).lv ∧ ((ts.getD p zT).lv = (ts.getD (p + d + 1) zT).lv → 0 < (ts.getD p zT).lv → cmpS (ts.getD p zT).last (ts.getD (p + d + 1) zT).first < 0)
  | 0, hd => by
    have h1 := (h.2 (p + 1) hd).2 (by omega)
    rw [Nat.add_sub_cancel] at h1
    unfold nextT at h1
    split at h1
    · rename_i he
      refine ⟨by show _ ≤ (ts.getD (p + 1) zT).lv; omega, fun _ hp => ?_⟩
      rcases h1 with h1 | h1
      · omega
      · exact h1
    · refine ⟨by show _ ≤ (ts.getD (p + 1) zT).lv; omega, fun he _ => ?_⟩
      have : (ts.getD p zT).lv = (ts.getD (p + 1) zT).lv := he
      omega
  | d + 1, hd => by
    have ih := lvl_step h p d (by omega)
    have h1 := (h.2 (p + d + 1 + 1) (by omega)).2 (by omega)
    have h2 := (h.2 (p + d + 1) (by omega)).1
    rw [Nat.add_sub_cancel] at h1
    rw [show p + (d + 1) + 1 = p + d + 1 + 1 by omega]
    unfold nextT at h1
    split at h1
    · rename_i he
      refine ⟨by omega, fun e2 hp => ?_⟩
      rcases h1 with h1 | h1
      · omega
      · have h3 := ih.2 (by omega) hp
        have h4 := h2.2.2.2.2.2.2.1
        exact cmpS_ord.ltle (cmpS_ord.ltle h3 h4) (by omega)
    · exact ⟨by omega, fun e2 hp => by omega⟩
theorem lvl_apart {ts : List Tb} (h : rightT ts) {p q : Nat} (hpq : p < q) (hq : q < ts.length) {key : ByteArray} (h1 : covP key (ts.getD p zT) = true) (h2 : covP key (ts.getD q zT) = true) (he : (ts.getD q zT).lv = (ts.getD p zT).lv) : ¬ 0 < (ts.getD q zT).lv := fun h0 => by
  obtain ⟨d, rfl⟩ : ∃ d, q = p + d + 1 := ⟨q - p - 1, by omega⟩
  have h3 := (lvl_step h p d hq).2 he.symm (by omega)
  unfold covP covB at h1 h2
  simp only [Bool.and_eq_true, decide_eq_true_eq] at h1 h2
  have h4 := cmpS_ord.lelt h1.2 h3
  have h5 := cmpS_ord.anti key (ts.getD (p + d + 1) zT).first
  have h6 := cmpS_ord.anti (ts.getD (p + d + 1) zT).first key
  omega
end Go.Proofs.YtiimmknnlciljaaDoor
