/-
  The five methods that the library's heap asks for: contracts over this translation.
-/
import Derived.Test.YteggjenncmjfmaaMgB
import Derived.BigRegion
namespace Go.Proofs.Yteggjenncmjfmaa
open Go.RowKit
set_option linter.unusedSectionVars false
variable [Inhabited E] [DecidableEq E] [Inhabited RV]
section
variable {own : Nat → Prop} {w : World} {g : Nat} {R : List RV} {v : Value}
theorem HIn.form (h : HIn own w g R v) : ∃ ao c, v = .slice ao R.length c ∧ R.length ≤ c := by
  rcases h.row.2 with ⟨rfl, h0⟩ | ⟨b, cap, cur, rfl, hB, hgg, hn2, hm, hs, ht⟩
  · exact ⟨none, 0, by rw [h0], by omega⟩
  · exact ⟨_, cap, rfl, hn2⟩
set_option maxRecDepth 100000 in
set_option maxHeartbeats 1000000 in
theorem hlen_any (h : HAt own w g R) : Calls Try.prog 20 #[.pointer (some ⟨g, 0, none⟩)] w fun e w' => e = .returned (.int .i64 (R.length : Nat)) ∧ w' = w := by
  obtain ⟨v, hv⟩ := h
  obtain ⟨ao, c, rfl, -⟩ := hv.form
  have c0 := hv.c0
  clear hv
  go_enter Try.func20, Try.ntmps20
  go_wp2
  go_ret
  exact ⟨rfl, rfl⟩
/-- All rows have a head and lie in w. -/
def RowsIn (w : World) (R : List RV) : Prop := ∀ r ∈ R, RIn w r ∧ r.l ≠ []
theorem RowsIn.below {w w' : World} {B : Nat} {R : List RV} (h : RowsIn w R) (hb : Below B w w') (hB : w.heap.size ≤ B) : RowsIn w' R := fun r hr => ⟨(h r hr).1.below hb hB, (h r hr).2⟩
theorem RowsIn.perm {w : World} {R S : List RV} (h : RowsIn w R) (hp : S.Perm R) : RowsIn w S := fun r hr => h r (hp.mem_iff.1 hr)
theorem RowsIn.at {w : World} {R : List RV} (h : RowsIn w R) {i : Nat} (hi : i < R.length) : RIn w R[i]! ∧ R[i]!.l ≠ [] := by
  rw [getElem!_pos R i hi]; exact h _ (List.getElem_mem hi)
set_option maxRecDepth 100000 in
set_option maxHeartbeats 1000000 in
theorem less_any (h : HAt own w g R) (hR : RowsIn w R) (i j : Nat) (hi : i < R.length) (hj : j < R.length) : Calls Try.prog 56 #[.pointer (some ⟨g, 0, none⟩), .int .i64 (i : Int), .int .i64 (j : Int)] w fun e w' => e = .returned (.bool (decide (cmpR R[i]! R[j]! < 0))) ∧ Below w.heap.size w w' := by
  obtain ⟨v, hv⟩ := h
  obtain ⟨b, c, cur, rfl, -, -, hcur, hlc, hc, hsz, hat⟩ := hv.slice (by omega)
  obtain ⟨hx, hx0⟩ := hR.at hi
  obtain ⟨hy, hy0⟩ := hR.at hj
  obtain ⟨d1, d2⟩ := hat i hi
  obtain ⟨e1, e2⟩ := hat j hj
  have c0 := hv.c0
  have c1 := hv.c1
  have HA : Hid (∀ W, Below w.heap.size w W → Calls Try.prog 26 #[.agg #[.int .i64 (R[i]!.age : Int), .slice R[i]!.ao R[i]!.n R[i]!.c], .agg #[.int .i64 (R[j]!.age : Int), .slice R[j]!.ao R[j]!.n R[j]!.c]] W fun e w' => e = .returned (.bool (decide (cmpR R[i]! R[j]! < 0))) ∧ Below W.heap.size W w') := fun W hW => by
    cases h1 : R[i]!.l with
    | nil => exact absurd h1 hx0
    | cons ex tx =>
      cases h2 : R[j]!.l with
      | nil => exact absurd h2 hy0
      | cons ey ty => exact ahead_any _ _ ex ey tx ty W (hx.below hW (Nat.le_refl _)) (hy.below hW (Nat.le_refl _)) h1 h2
  obtain ⟨r, HR⟩ : ∃ r, Hid (decide (cmpR R[i]! R[j]! < 0) = r) := ⟨_, rfl⟩
  rw [HR.out] at HA ⊢
  obtain ⟨m, HM⟩ : ∃ m, Hid (R.length = m) := ⟨_, rfl⟩
  rw [HM.out] at c0 hlc hi hj
  obtain ⟨a1, A1⟩ : ∃ x, Hid (R[i]!.age = x) := ⟨_, rfl⟩
  obtain ⟨a2, A2⟩ : ∃ x, Hid (R[i]!.ao = x) := ⟨_, rfl⟩
  obtain ⟨a3, A3⟩ : ∃ x, Hid (R[i]!.n = x) := ⟨_, rfl⟩
  obtain ⟨a4, A4⟩ : ∃ x, Hid (R[i]!.c = x) := ⟨_, rfl⟩
  obtain ⟨b1, B1⟩ : ∃ x, Hid (R[j]!.age = x) := ⟨_, rfl⟩
  obtain ⟨b2, B2⟩ : ∃ x, Hid (R[j]!.ao = x) := ⟨_, rfl⟩
  obtain ⟨b3, B3⟩ : ∃ x, Hid (R[j]!.n = x) := ⟨_, rfl⟩
  obtain ⟨b4, B4⟩ : ∃ x, Hid (R[j]!.c = x) := ⟨_, rfl⟩
  rw [A1.out] at d1
  rw [A2.out, A3.out, A4.out] at d2
  rw [B1.out] at e1
  rw [B2.out, B3.out, B4.out] at e2
  rw [A1.out, A2.out, A3.out, A4.out, B1.out, B2.out, B3.out, B4.out] at HA
  have hiz : (i : Int) < (m : Int) := by omega
  have hjz : (j : Int) < (m : Int) := by omega
  clear hx hx0 hy hy0 hv hR hat hcur hsz hi hj
  go_enter Try.func56, Try.ntmps56
  go_wp2_with fail
  go_region_held3 (fun W => W.cell? ⟨g, 0, none⟩ = some (.slice (some ⟨b, 0, none⟩) m c) ∧ W.cell? ⟨g, 1, none⟩ = some (.func (.func 26) #[] #[]) ∧ W.cell? ⟨b, i * 2, none⟩ = some (.int .i64 (a1 : Int)) ∧ W.cell? ⟨b, i * 2 + 1, none⟩ = some (.slice a2 a3 a4) ∧ W.cell? ⟨b, j * 2, none⟩ = some (.int .i64 (b1 : Int)) ∧ W.cell? ⟨b, j * 2 + 1, none⟩ = some (.slice b2 b3 b4)) (first | assumption | go_keep) (first | (go_at_call 26; refine (HA.out _ ((Below.refl _ _).drew)).mono ?_; rintro e w1 ⟨rfl, hb1⟩; have hS1 : _ ∧ _ ∧ _ ∧ _ ∧ _ ∧ _ := ⟨bel_cell hb1 (Nat.le_refl _) c0, bel_cell hb1 (Nat.le_refl _) c1, bel_cell hb1 (Nat.le_refl _) d1, bel_cell hb1 (Nat.le_refl _) d2, bel_cell hb1 (Nat.le_refl _) e1, bel_cell hb1 (Nat.le_refl _) e2⟩))
  go_wp2
  go_ret
  exact ⟨rfl, (Below.drew (Below.refl w.heap.size w)).trans (hb1.mono (Below.drew (Below.refl w.heap.size w)).size)⟩
theorem rowC_set : ∀ (L : List RV) (i : Nat) (r : RV), i < L.length → ((rowC L).set (i * 2) (.int .i64 (r.age : Int))).set (i * 2 + 1) (.slice r.ao r.n r.c) = rowC (L.set i r)
  | [], i, _, h => absurd h (by simp)
  | e :: L, 0, r, _ => by
    rw [rowC_cons, List.set_cons_zero, rowC_cons]; rfl
  | e :: L, i + 1, r, h => by
    rw [rowC_cons, List.set_cons_succ, rowC_cons, ← rowC_set L i r (by simpa using h)]
    have h4 : (encR e).length = 2 := rfl
    rw [List.set_append_right _ _ (by rw [h4]; omega), List.set_append_right _ _ (by rw [h4]; omega), h4]
    rw [show (i + 1) * 2 - 2 = i * 2 by omega, show (i + 1) * 2 + 1 - 2 = i * 2 + 1 by omega]
theorem own_setR {w : World} {base g n cap : Nat} {L : List RV} (h : w.ownsRow base 49 2 (.slice (some ⟨g, 0, none⟩) n cap) n (rowC L)) (i : Nat) (hi : i < n) (r : RV) :
    ((w.setCell ⟨g, i * 2, none⟩ (.int .i64 (r.age : Int))).setCell ⟨g, i * 2 + 1, none⟩ (.slice r.ao r.n r.c)).ownsRow base 49 2 (.slice (some ⟨g, 0, none⟩) n cap) n (rowC (L.set i r)) := by
  have hl : i < L.length := by have := h.1; rw [rowC_len] at this; omega
  rw [← rowC_set L i r hl]
  exact (h.stored _ _).1.stored _ _ |>.1
theorem HIn.swap {b c : Nat} (hv : HIn own w g R (.slice (some ⟨b, 0, none⟩) R.length c)) (hbg : b ≠ g) (hob : own b) (i j : Nat) (hi : i < R.length) (hj : j < R.length) (W : World)
    (hW : W = ((((w.setCell ⟨b, i * 2, none⟩ (.int .i64 (R[j]!.age : Int))).setCell ⟨b, i * 2 + 1, none⟩ (.slice R[j]!.ao R[j]!.n R[j]!.c)).setCell ⟨b, j * 2, none⟩ (.int .i64 (R[i]!.age : Int))).setCell ⟨b, j * 2 + 1, none⟩ (.slice R[i]!.ao R[i]!.n R[i]!.c)).drew) :
    HAt own W g (swpL R i j) ∧ Only own w W := by
  have h1 := own_setR hv.row i hi R[j]!
  have h2 := own_setR h1 j hj R[i]!
  have hg : ∀ (i : Nat) (u : Value) (w2 : World), (w2.setCell ⟨b, i, none⟩ u).heap[g]? = w2.heap[g]? := fun i u w2 => heap_set_ne w2 i u (fun e => hbg e.symm)
  subst hW
  refine ⟨⟨_, hv.og, ?_, ?_, hv.rown⟩, ?_⟩
  · rw [heap_drew, hg, hg, hg, hg]; exact hv.cells
  · rw [swpL_len]
    exact World.ownsRow.drew h2
  · exact ((((((Only.refl own w).setCell (.inl hob) _).setCell (.inl hob) _).setCell (.inl hob) _).setCell (.inl hob) _).drewN 1)
set_option maxRecDepth 100000 in
set_option maxHeartbeats 2000000 in
theorem swap_any (h : HAt own w g R) (i j : Nat) (hi : i < R.length) (hj : j < R.length) : Calls Try.prog 59 #[.pointer (some ⟨g, 0, none⟩), .int .i64 (i : Int), .int .i64 (j : Int)] w fun e w' => e = .returned (.tuple #[]) ∧ HAt own w' g (swpL R i j) ∧ Only own w w' := by
  obtain ⟨v, hv⟩ := h
  obtain ⟨b, c, cur, rfl, hob, hbg, hcur, hlc, hc, hsz, hat⟩ := hv.slice (by omega)
  obtain ⟨d1, d2⟩ := hat i hi
  obtain ⟨e1, e2⟩ := hat j hj
  have c0 := hv.c0
  have f1 := fz_of hcur
  have HV : Hid (HIn own w g R (.slice (some ⟨b, 0, none⟩) R.length c)) := hv
  have HO : Hid (own b ∧ b ≠ g) := ⟨hob, hbg⟩
  have HIJ : Hid (i < R.length ∧ j < R.length) := ⟨hi, hj⟩
  have HZ : Hid (2 * R.length ≤ cur.size) := by show 2 * _ ≤ _; omega
  obtain ⟨m, HM⟩ : ∃ m, Hid (R.length = m) := ⟨_, rfl⟩
  rw [HM.out] at c0 hlc hi hj
  obtain ⟨a1, A1⟩ : ∃ x, Hid (R[i]!.age = x) := ⟨_, rfl⟩
  obtain ⟨a2, A2⟩ : ∃ x, Hid (R[i]!.ao = x) := ⟨_, rfl⟩
  obtain ⟨a3, A3⟩ : ∃ x, Hid (R[i]!.n = x) := ⟨_, rfl⟩
  obtain ⟨a4, A4⟩ : ∃ x, Hid (R[i]!.c = x) := ⟨_, rfl⟩
  obtain ⟨b1, B1⟩ : ∃ x, Hid (R[j]!.age = x) := ⟨_, rfl⟩
  obtain ⟨b2, B2⟩ : ∃ x, Hid (R[j]!.ao = x) := ⟨_, rfl⟩
  obtain ⟨b3, B3⟩ : ∃ x, Hid (R[j]!.n = x) := ⟨_, rfl⟩
  obtain ⟨b4, B4⟩ : ∃ x, Hid (R[j]!.c = x) := ⟨_, rfl⟩
  rw [A1.out] at d1
  rw [A2.out, A3.out, A4.out] at d2
  rw [B1.out] at e1
  rw [B2.out, B3.out, B4.out] at e2
  have hiz : (i : Int) < (m : Int) := by omega
  have hjz : (j : Int) < (m : Int) := by omega
  clear hv hat hcur hsz hi hj hob hbg
  by_cases hij : i = j
  · subst hij
    go_enter Try.func59, Try.ntmps59
    go_wp2_with fail
    go_region
    all_goals go_wp2
    go_end0
    exact ⟨rfl, HV.out.swap HO.out.2 HO.out.1 i i HIJ.out.1 HIJ.out.2 _ (by rw [A1.out, A2.out, A3.out, A4.out])⟩
  · have n1 : ¬ (j * 2 = i * 2) := by omega
    have n2 : ¬ (j * 2 = i * 2 + 1) := by omega
    have n3 : ¬ (j * 2 + 1 = i * 2) := by omega
    have n4 : ¬ (i * 2 = j * 2) := by omega
    have n5 : ¬ (i * 2 + 1 = j * 2) := by omega
    have n6 : ¬ (i * 2 = j * 2 + 1) := by omega
    have n7 : ¬ (j = i) := by omega
    go_enter Try.func59, Try.ntmps59
    go_wp2_with fail
    go_region
    all_goals go_wp2
    go_end0
    have hsw := HV.out.swap HO.out.2 HO.out.1 i j HIJ.out.1 HIJ.out.2 _ rfl
    rw [A1.out, A2.out, A3.out, A4.out, B1.out, B2.out, B3.out, B4.out] at hsw
    exact ⟨rfl, hsw⟩
end
end Go.Proofs.Yteggjenncmjfmaa
