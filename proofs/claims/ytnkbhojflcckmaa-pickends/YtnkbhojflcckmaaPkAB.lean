/-
  Nobody is left in the way: plain mathematics.
-/
import Derived.Test.YtnkbhojflcckmaaPkAA
import Derived.Test.YtnkbhojflcckmaaLessW
namespace Go.Proofs.Ytnkbhojflcckmaa
open Go.RowKit
set_option linter.unusedSectionVars false
/-- May the new one stand beside the old one? -/
def okP (x y : Tb) : Bool := (x.lv == 0) || (!(y.lv == x.lv) || (decide (cmpS y.last x.first < 0) || decide (cmpS x.last y.first < 0)))
/-- The ones that overlap none ahead of theirs. -/
def freeN (R : List Tb) : Nat → List Tb
  | 0 => []
  | i + 1 => if (freeN R i).all (okP (R.getD i zT)) then freeN R i ++ [R.getD i zT] else freeN R i
theorem freeN_succ (R : List Tb) (i : Nat) : freeN R (i + 1) = if (freeN R i).all (okP (R.getD i zT)) then freeN R i ++ [R.getD i zT] else freeN R i := rfl
theorem freeN_len (R : List Tb) : ∀ i, (freeN R i).length ≤ i
  | 0 => by simp [freeN]
  | i + 1 => by
    have := freeN_len R i
    rw [freeN_succ]
    split
    · rw [List.length_append, List.length_singleton]; omega
    · omega
theorem freeN_mem {R : List Tb} : ∀ i, i ≤ R.length → ∀ x ∈ freeN R i, x ∈ R
  | 0, _ => fun x hx => by cases hx
  | i + 1, h => fun x hx => by
    rw [freeN_succ] at hx
    split at hx
    · rcases List.mem_append.1 hx with h1 | h1
      · exact freeN_mem i (by omega) x h1
      · rw [List.mem_singleton.1 h1]; exact getD_mem (by omega)
    · exact freeN_mem i (by omega) x hx
theorem freeN_apart (R : List Tb) : ∀ i, (freeN R i).Pairwise (fun y x => okP x y = true)
  | 0 => by simp [freeN]
  | i + 1 => by
    have h := freeN_apart R i
    rw [freeN_succ]
    split
    · rename_i h1
      refine List.pairwise_append.2 ⟨h, List.pairwise_singleton _ _, fun a ha b hb => ?_⟩
      rw [List.mem_singleton.1 hb]
      exact List.all_eq_true.1 h1 a ha
    · exact h
/-- Of one level, above 0: apart. -/
def ApartT (T : List Tb) : Prop := ∀ j k, j < T.length → k < T.length → j ≠ k → (T.getD j zT).lv = (T.getD k zT).lv → (T.getD j zT).lv ≠ 0 → cmpS (T.getD j zT).last (T.getD k zT).first < 0 ∨ cmpS (T.getD k zT).last (T.getD j zT).first < 0
theorem okP_apart {x y : Tb} (h : okP x y = true) (h1 : y.lv = x.lv) (h2 : x.lv ≠ 0) : cmpS y.last x.first < 0 ∨ cmpS x.last y.first < 0 := by
  unfold okP at h
  simp only [Bool.or_eq_true, beq_iff_eq, Bool.not_eq_true', beq_eq_false_iff_ne, decide_eq_true_eq] at h
  rcases h with h | h | h | h
  · exact absurd h h2
  · exact absurd h1 h
  · exact .inl h
  · exact .inr h
theorem free_apart (R : List Tb) (i : Nat) : ApartT (freeN R i) := by
  intro j k hj hk hne he h0
  have hp := List.pairwise_iff_getElem.1 (freeN_apart R i)
  rw [getD_at _ j zT hj, getD_at _ k zT hk] at *
  rcases Nat.lt_or_gt_of_ne hne with h | h
  · exact okP_apart (hp j k hj hk h) he (by omega)
  · exact (okP_apart (hp k j hk hj h) he.symm h0).symm
theorem lt_of_not {a b : ByteArray} (h : ¬ cmpS a b ≤ 0) : cmpS b a < 0 := by have h1 := cmpS_ord.anti a b; have h2 := cmpS_ord.anti b a; omega
theorem le_lt {a b c : ByteArray} (h1 : cmpS a b ≤ 0) (h2 : cmpS b c < 0) : cmpS a c < 0 := by
  have h3 := cmpS_ord.trans a b c h1 (by omega)
  by_cases h : cmpS a c = 0
  · have e := cmpS_eq.1 h
    subst e
    have h4 := cmpS_ord.anti a b
    have h5 := cmpS_ord.anti b a
    omega
  · omega
theorem lt_irr {a : ByteArray} (h : cmpS a a < 0) : False := by have := cmpS_ord.self a; omega
/-- PickWhole's mathematics. -/
theorem whole_math {T : List Tb} {f : Nat} (hA : ApartT T) (hR : ∀ x ∈ T, RightT x) {j : Nat} (hj : j < T.length) (hn : inB T f j = false) (hl : (T.getD j zT).lv = (f : Int) + 1)
    (h1 : cmpS (T.getD j zT).first (hiT (tabsAt T (inL T f))) ≤ 0) (h2 : cmpS (loT (tabsAt T (inL T f))) (T.getD j zT).last ≤ 0) : False := by
  unfold inB at hn
  rw [Bool.or_eq_false_iff] at hn
  obtain ⟨hn1, hn2⟩ := hn
  have hx := (hR _ (getD_mem hj)).2.2.2.2
  have hne : tabsAt T (inL T f) ≠ [] := by
    intro h
    have h3 : loT (tabsAt T (inL T f)) = ByteArray.empty := by rw [h]; rfl
    have h4 : hiT (tabsAt T (inL T f)) = ByteArray.empty := by rw [h]; rfl
    -- nothing picked: nothing is below nothing
    have h5 : inL T f = [] := by simpa [tabsAt] using h
    have h6 : upN T f T.length = [] := by
      cases hu : upN T f T.length with
      | nil => rfl
      | cons k l =>
        have hk : k ∈ upN T f T.length := by rw [hu]; simp
        obtain ⟨hk1, hk2⟩ := mem_upN.1 hk
        have : k ∈ inL T f := mem_inN.2 ⟨hk1, .inl hk2⟩
        rw [h5] at this; cases this
    have h7 : loP T f T.length = ByteArray.empty := by unfold loP; rw [h6]; rfl
    have h8 : hiP T f T.length = ByteArray.empty := by unfold hiP; rw [h6]; rfl
    unfold lowB touB at hn2
    rw [h7, h8, ← h3, decide_eq_true hl, decide_eq_true h2] at hn2
    rw [h3, ← h4, decide_eq_true h1] at hn2
    cases hn2
  have hlow : ¬ (cmpS (T.getD j zT).first (hiP T f T.length) ≤ 0 ∧ cmpS (loP T f T.length) (T.getD j zT).last ≤ 0) := by
    rintro ⟨g1, g2⟩
    unfold lowB touB at hn2
    rw [decide_eq_true hl, decide_eq_true g1, decide_eq_true g2] at hn2
    cases hn2
  have hin : ∀ y ∈ tabsAt T (inL T f), (cmpS (loP T f T.length) y.first ≤ 0 ∧ cmpS y.last (hiP T f T.length) ≤ 0) ∨ (cmpS y.first (hiP T f T.length) ≤ 0 ∧ cmpS (loP T f T.length) y.last ≤ 0 ∧ (cmpS y.last (T.getD j zT).first < 0 ∨ cmpS (T.getD j zT).last y.first < 0)) := by
    intro y hy
    simp only [tabsAt, List.mem_map] at hy
    obtain ⟨k, hk, rfl⟩ := hy
    obtain ⟨hk1, hk2⟩ := mem_inN.1 hk
    rcases hk2 with hk2 | hk2
    · left
      have hm : T.getD k zT ∈ tabsAt T (upN T f T.length) := by
        simp only [tabsAt, List.mem_map]
        exact ⟨k, mem_upN.2 ⟨hk1, hk2⟩, rfl⟩
      exact ⟨loT_le hm, hiT_ge hm⟩
    · right
      have hkj : k ≠ j := fun h => by rw [h, hn2] at hk2; cases hk2
      have hk3 := hk2
      simp only [lowB, touB, Bool.and_eq_true, decide_eq_true_eq] at hk3
      have hap := hA k j hk1 hj hkj (by rw [hk3.1.1, hl]) (by rw [hk3.1.1]; omega)
      exact ⟨hk3.1.2, hk3.2, hap⟩
  by_cases hc : cmpS (loP T f T.length) (T.getD j zT).last ≤ 0
  · have g1 : cmpS (hiP T f T.length) (T.getD j zT).first < 0 := lt_of_not fun h => hlow ⟨h, hc⟩
    obtain ⟨y, hy, he⟩ := hiT_mem hne
    rw [he] at h1
    rcases hin y hy with ⟨g2, g3⟩ | ⟨g2, g3, g4⟩
    · exact lt_irr (le_lt h1 (le_lt g3 g1))
    · rcases g4 with g4 | g4
      · exact lt_irr (le_lt h1 g4)
      · exact lt_irr (le_lt hx (le_lt (Int.le_of_lt g4) (le_lt g2 g1)))
  · have g1 : cmpS (T.getD j zT).last (loP T f T.length) < 0 := lt_of_not hc
    obtain ⟨y, hy, he⟩ := loT_mem hne
    rw [he] at h2
    rcases hin y hy with ⟨g2, g3⟩ | ⟨g2, g3, g4⟩
    · exact lt_irr (le_lt (cmpS_ord.trans _ _ _ g2 h2) g1)
    · rcases g4 with g4 | g4
      · exact lt_irr (le_lt g3 (le_lt (Int.le_of_lt g4) (le_lt hx g1)))
      · exact lt_irr (le_lt h2 g4)
/-- How many of the level 0 came. -/
def frC (ts : List Tb) (l : List Nat) : Nat := upC ts 0 l
theorem fresh_math {T : List Tb} {f : Nat} (h : pickF T = some f) : upC T 0 (inL T f) = 0 ∨ (upC T 0 (inL T f) = cnt T 0 ∧ f = 0) := by
  by_cases h0 : f = 0
  · right
    subst h0
    refine ⟨?_, rfl⟩
    unfold upC
    have hp := (in_perm T 0).countP_eq (fun j => decide ((T.getD j zT).lv = ((0 : Nat) : Int)))
    rw [← hp, List.countP_append]
    have e1 : (upL T 0).countP (fun j => decide ((T.getD j zT).lv = ((0 : Nat) : Int))) = (upL T 0).length := List.countP_eq_length.2 (fun j hj => by
      have := (mem_upN.1 hj).2
      simp only [mineB, Bool.and_eq_true] at this
      exact this.1)
    have e2 : (lowL T 0).countP (fun j => decide ((T.getD j zT).lv = ((0 : Nat) : Int))) = 0 := List.countP_eq_zero.2 (fun j hj => by
      unfold lowL plc at hj
      rw [List.mem_filter] at hj
      have := hj.2
      simp only [touB, Bool.and_eq_true, decide_eq_true_eq] at this
      have h9 := this.1.1
      simp only [decide_eq_true_eq]
      omega)
    rw [e1, e2, up_len0]
    rfl
  · left
    unfold upC
    exact List.countP_eq_zero.2 (fun j hj => by
      simp only [decide_eq_true_eq]
      rcases in_level hj with h | h <;> omega)
theorem none_caps {T : List Tb} (h : pickF T = none) (i : Nat) (hi : i < 3) : (cntN T i T.length : Int) ≤ capI i := by
  rw [pickF_none_iff] at h
  rw [cntN_all]
  match i, hi with
  | 0, _ => show (cnt T 0 : Int) ≤ 4; omega
  | 1, _ => show (cnt T 1 : Int) ≤ 8; omega
  | 2, _ => show (cnt T 2 : Int) ≤ 32; omega
/-- The range so far. -/
def frL (T : List Tb) (L : List Nat) (i : Nat) : ByteArray := loT (tabsAt T (L.take (max i 1)))
def frH (T : List Tb) (L : List Nat) (i : Nat) : ByteArray := hiT (tabsAt T (L.take (max i 1)))
theorem take_one {L : List Nat} (h : 0 < L.length) : L.take 1 = [L.getD 0 0] := by have := take_getD L 0 h; simpa using this
theorem frL_zero (T : List Tb) {L : List Nat} (h : 0 < L.length) : frL T L 0 = (T.getD (L.getD 0 0) zT).first := by
  unfold frL; rw [show max 0 1 = 1 from rfl, take_one h]; exact loT_one _
theorem frH_zero (T : List Tb) {L : List Nat} (h : 0 < L.length) : frH T L 0 = (T.getD (L.getD 0 0) zT).last := by
  unfold frH; rw [show max 0 1 = 1 from rfl, take_one h]; exact hiT_one _
theorem minS_self (a : ByteArray) : minS a a = a := by unfold minS; split <;> rfl
theorem maxS_self (a : ByteArray) : maxS a a = a := by unfold maxS; split <;> rfl
theorem take_ne {L : List Nat} {i : Nat} (h : i + 1 < L.length) : L.take (i + 1) ≠ [] := by
  intro h9
  have h8 : (L.take (i + 1)).length = 0 := by rw [h9]; rfl
  rw [List.length_take] at h8
  omega
theorem frL_succ (T : List Tb) {L : List Nat} {i : Nat} (h : i < L.length) : frL T L (i + 1) = minS (frL T L i) (T.getD (L.getD i 0) zT).first := by
  cases i with
  | zero =>
    have e : frL T L (0 + 1) = frL T L 0 := rfl
    rw [e, frL_zero T h, minS_self]
  | succ i =>
    unfold frL
    rw [show max (i + 1 + 1) 1 = i + 1 + 1 by omega, show max (i + 1) 1 = i + 1 by omega, take_getD L (i + 1) h, tabsAt_append]
    exact loT_snoc _ _ (tabsAt_nil (take_ne h))
theorem frH_succ (T : List Tb) {L : List Nat} {i : Nat} (h : i < L.length) : frH T L (i + 1) = maxS (frH T L i) (T.getD (L.getD i 0) zT).last := by
  cases i with
  | zero =>
    have e : frH T L (0 + 1) = frH T L 0 := rfl
    rw [e, frH_zero T h, maxS_self]
  | succ i =>
    unfold frH
    rw [show max (i + 1 + 1) 1 = i + 1 + 1 by omega, show max (i + 1) 1 = i + 1 by omega, take_getD L (i + 1) h, tabsAt_append]
    exact hiT_snoc _ _ (tabsAt_nil (take_ne h))
theorem fr_all (T : List Tb) {L : List Nat} (h : 0 < L.length) : frL T L L.length = loT (tabsAt T L) ∧ frH T L L.length = hiT (tabsAt T L) := by
  unfold frL frH
  rw [show max L.length 1 = L.length by omega, List.take_length]
  exact ⟨rfl, rfl⟩
theorem inL_pos {T : List Tb} {f : Nat} (h : pickF T = some f) : 0 < (inL T f).length := by
  rw [in_len]
  have := List.length_pos_iff.2 (up_one h)
  omega
end Go.Proofs.Ytnkbhojflcckmaa
