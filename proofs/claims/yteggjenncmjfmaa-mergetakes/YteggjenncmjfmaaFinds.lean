/-
  A key's place parts a sorted list: what the law EntryFinds answers, for any arguments.
-/
import Derived.Test.YteggjenncmjfmaaArgs
namespace Go.Proofs.Yteggjenncmjfmaa
open Go.RowKit Go.Sort Go.Shelf
set_option linter.unusedSectionVars false
variable [Inhabited E]
theorem own_shapeE {w : World} {base : Nat} {v : Value} {n : Nat} {es : List E} (h : w.ownsRow base 29 4 v n (flatE es)) (hn : 0 < n) : ∃ g c, v = .slice (some ⟨g, 0, none⟩) n c ∧ Ents w g 0 es ∧ base ≤ g := by
  have h' := h
  rcases h.2 with ⟨_, h0⟩ | ⟨g, cap, cur, rfl, hb, _⟩
  · omega
  · exact ⟨g, cap, rfl, own_ents h', hb⟩
theorem own_entsV {w : World} {base : Nat} {v : Value} {n : Nat} {es : List E} (h : w.ownsRow base 29 4 v n (flatE es)) (hn : es.length = n) : ∃ ao c, v = .slice ao n c ∧ EntsV w ao n es := by
  by_cases hp : 0 < n
  · obtain ⟨g, c, rfl, hE, _⟩ := own_shapeE h hp
    exact ⟨_, c, rfl, hn, fun _ => ⟨g, 0, rfl, hE⟩⟩
  · obtain rfl : n = 0 := by omega
    rcases h.2 with ⟨hv, _⟩ | ⟨g, cap, cur, rfl, _⟩
    · exact ⟨none, 0, hv, hn, fun h => absurd h (by omega)⟩
    · exact ⟨_, cap, rfl, hn, fun h => absurd h (by omega)⟩
theorem EntsV.below {w w' : World} {ao : Option Addr} {n B : Nat} {es : List E} (h : EntsV w ao n es) (hb : Below B w w') (hB : w.heap.size ≤ B) : EntsV w' ao n es :=
  ⟨h.1, fun hp => by obtain ⟨b, off, h1, h2⟩ := h.2 hp; exact ⟨b, off, h1, h2.below hb hB⟩⟩
theorem belowN_cons (key : ByteArray) (e : E) (r : List E) : belowN key (e :: r) = (if cmpS e.key key < 0 then 1 else 0) + belowN key r := by
  unfold belowN; rw [List.countP_cons, Nat.add_comm]; by_cases h : cmpS e.key key < 0 <;> simp [h]
theorem belowN_zero {key : ByteArray} {r : List E} (h : ∀ e ∈ r, ¬ cmpS e.key key < 0) : belowN key r = 0 := by
  unfold belowN; rw [List.countP_eq_zero]; intro e he; simpa using h e he
theorem ks_place (key : ByteArray) : ∀ {l : List E}, Ks l → ∀ i, i < l.length → (cmpS l[i]!.key key < 0 ↔ i < belowN key l)
  | [], _, i, h => by simp at h
  | e :: r, hk, i, h => by
    have hk' := List.pairwise_cons.1 hk
    rw [belowN_cons]
    by_cases c : cmpS e.key key < 0
    · rw [if_pos c]
      cases i with
      | zero => simp [c]; omega
      | succ i =>
        have := ks_place key hk'.2 i (by simpa using h)
        simp only [List.getElem!_cons_succ]
        rw [this]; omega
    · have hz : belowN key r = 0 := belowN_zero fun x hx hc => c (cmpS_ord.ltle (hk'.1 x hx) (by omega))
      rw [if_neg c, hz]
      cases i with
      | zero => exact ⟨fun h => absurd h c, fun h => by omega⟩
      | succ i =>
        have hi : i < r.length := by simpa using h
        simp only [List.getElem!_cons_succ]
        have : ¬ cmpS r[i]!.key key < 0 := fun hc => by
          rw [getElem!_pos r i hi] at hc
          exact c (cmpS_ord.ltle (hk'.1 _ (List.getElem_mem hi)) (by omega))
        exact ⟨fun h => absurd h this, fun h => by omega⟩
theorem ks_isIn (key : ByteArray) : ∀ {l : List E}, Ks l → isIn key l = (decide (belowN key l < l.length) && decide (l[belowN key l]!.key = key))
  | [], _ => rfl
  | e :: r, hk => by
    have hk' := List.pairwise_cons.1 hk
    have ih := ks_isIn key hk'.2
    have hu : isIn key (e :: r) = (decide (e.key = key) || isIn key r) := by unfold isIn; rw [List.any_cons]
    rw [hu, belowN_cons]
    by_cases c : cmpS e.key key < 0
    · have hne : ¬ e.key = key := fun h => by rw [h] at c; have := cmpS_ord.self key; omega
      rw [if_pos c, ih, Nat.add_comm 1]
      simp [hne]
    · have hz : belowN key r = 0 := belowN_zero fun x hx hc => c (cmpS_ord.ltle (hk'.1 x hx) (by omega))
      rw [if_neg c, hz]
      by_cases h2 : e.key = key
      · simp [h2]
      · have : isIn key r = false := by
          unfold isIn
          rw [List.any_eq_false]
          intro x hx hc
          simp at hc
          have h3 := hk'.1 x hx
          rw [hc] at h3
          exact c h3
        simp [h2, this]
theorem foldS_len (l : List E) : (foldS l).length ≤ l.length := by
  have hi : ∀ (a : List E) (e : E), (insS a e).length ≤ a.length + 1 := by
    intro a e
    induction a with
    | nil => simp [insS]
    | cons x r ih =>
      rw [insS]
      split
      · simpa using ih
      · split
        · split <;> simp
        · simp
  have : ∀ (l a : List E), (l.foldl insS a).length ≤ a.length + l.length := by
    intro l
    induction l with
    | nil => intro a; simp
    | cons e l ih =>
      intro a
      have h1 := ih (insS a e)
      have h2 := hi a e
      simp only [List.foldl_cons, List.length_cons]
      omega
  have h := this l []
  rw [List.length_nil, Nat.zero_add] at h
  exact h
end Go.Proofs.Yteggjenncmjfmaa
