/-
  The library's heap: down over the heads: a contract over this translation.
-/
import Derived.Test.YteggjenncmjfmaaMgE
namespace Go.Proofs.Yteggjenncmjfmaa
open Go.RowKit
set_option linter.unusedSectionVars false
variable [Inhabited E] [DecidableEq E] [Inhabited RV]
section
variable {own : Nat → Prop} {w : World} {g : Nat} {R : List RV} {v : Value}
set_option maxRecDepth 100000 in
set_option maxHeartbeats 2000000 in
theorem down_any (h : HAt own w g R) (w0 : World) (hw0 : Below w0.heap.size w0 w) (hown : ∀ k, own k → w0.heap.size ≤ k) (hR : RowsIn w0 R) (n : Nat) (hn : n + 1 = R.length) (hd : DnInv cmpR R n 0) (hb : R.length ≤ 1000000) :
    Calls Try.prog 35 #[.iface 38 (.pointer (some ⟨g, 0, none⟩)), .int .i64 0, .int .i64 (n : Int)] w fun e w' => ∃ v, e = .returned v ∧ ∃ S, S.Perm R ∧ S[n]! = R[n]! ∧ Heap cmpR S n ∧ HAt own w' g S ∧ Only own w w' := by
  have HR : Hid (RowsIn w0 R) := hR
  have HW0 : Hid (Below w0.heap.size w0 w ∧ (∀ k, own k → w0.heap.size ≤ k) ∧ R.length ≤ 1000000 ∧ n + 1 = R.length) := ⟨hw0, hown, hb, hn⟩
  have HST : Hid (HAt own w g R ∧ DnInv cmpR R n 0) := ⟨h, hd⟩
  have m1 := mless g
  have m2 := ms g
  clear hR hw0 hown hb h hd hn
  go_enter Try.func35, Try.ntmps35
  go_wp2_with fail
  go_loopw [7] (fun x wr => ∃ (t : Nat) (S : List RV), x = .int .i64 t ∧ Hid (S.Perm R ∧ S[n]! = R[n]! ∧ HAt own wr g S ∧ Only own w wr ∧ DnInv cmpR S n t) ∧ t ≤ n) (fun x _ => n - (intOf x).toNat)
  case atStart => exact ⟨0, R, rfl, ⟨List.Perm.refl _, rfl, HST.out.1, Only.refl _ _, HST.out.2⟩, Nat.zero_le _⟩
  case round =>
    obtain ⟨t, S, rfl, HI, htn⟩ := hrel
    obtain ⟨j1, HJ1⟩ : ∃ q, Hid (2 * t + 1 = q) := ⟨_, rfl⟩
    obtain ⟨j2, HJ2⟩ : ∃ q, Hid (2 * t + 2 = q) := ⟨_, rfl⟩
    have hj1 : 2 * (t : Int) + 1 = (j1 : Int) := by have := HJ1.out; omega
    have hj2 : (j1 : Int) + 1 = (j2 : Int) := by have := HJ2.out; have := HJ1.out; omega
    have h1t : (0 : Int) ≤ (t : Int) := by omega
    have htb : (t : Int) ≤ 1000000 := by have h2 := HW0.out.2.2; omega
    have hj0 : ¬ (j1 : Int) < 0 := by omega
    have hjb : (j1 : Int) ≤ 3000000 := by omega
    have HL : Hid (t < S.length ∧ t < n + 1 ∧ 0 ≤ t ∧ n + 1 = S.length) := by
      have h1 := HI.out.1.length_eq; have h2 := HW0.out.2.2.2
      exact ⟨by omega, by omega, Nat.zero_le _, by omega⟩
    have HRS : Hid (∀ W, Only own w W → RowsIn W S) := fun W hW => (HR.out.perm HI.out.1).below (HW0.out.1.trans (hW.below HW0.out.2.1 HW0.out.1.size)) (Nat.le_refl _)
    have HK : Hid (∀ k, k < n → 0 < k → (k - 1) / 2 = t → k = j1 ∨ k = j2) := fun k _ h1 h2 => by have := HJ1.out; have := HJ2.out; omega
    clear htn
    by_cases hge : (n : Int) ≤ (j1 : Int)
    · have HG : Hid (n ≤ 2 * t + 1) := by have := HJ1.out; show _ ≤ _; omega
      go_wp2_with fail
      go_ret
      exact ⟨⟨_, rfl⟩, S, HI.out.1, by simpa using HI.out.2.1, dn_leaf HI.out.2.2.2.2 HG.out, HI.out.2.2.1, HI.out.2.2.2.1⟩
    · have HA : Hid (HAt own wr g S) := HI.out.2.2.1
      have HO : Hid (Only own w wr) := HI.out.2.2.2.1
      have HN1 : Hid (j1 < n ∧ j1 < S.length ∧ (j1 - 1) / 2 = t ∧ 0 < j1 ∧ (j2 - 1) / 2 = t ∧ 0 < j2) := by
        have := HJ1.out; have := HJ2.out; have := HL.out
        exact ⟨by omega, by omega, by omega, by omega, by omega, by omega⟩
      by_cases hlt2 : (j2 : Int) < (n : Int)
      · have HN2 : Hid (j2 < n ∧ j2 < S.length) := by have := HL.out; exact ⟨by omega, by omega⟩
        go_wp2_with fail
        refine (less_any HA.out (HRS.out _ HO.out) j2 j1 HN2.out.2 HN1.out.2.1).mono ?_
        rintro e w4 ⟨rfl, hb4⟩
        have HA4 : Hid (HAt own w4 g S) := HA.out.grown hb4
        have HO4 : Hid (Only own w w4) := HO.out.trans (Only.of_below (own := own) hb4) (fun _ e => .inl e)
        clear hb4
        by_cases hc4 : cmpR S[j2]! S[j1]! < 0
        · rw [decide_eq_true hc4]
          have HJ : Hid (j2 < S.length ∧ j2 < n ∧ (j2 - 1) / 2 = t ∧ 0 < j2 ∧ ∀ k, k < n → 0 < k → (k - 1) / 2 = t → cmpR S[j2]! S[k]! ≤ 0) := ⟨HN2.out.2, HN2.out.1, HN1.out.2.2.2.2.1, HN1.out.2.2.2.2.2, fun k h1 h2 h3 => by
            rcases HK.out k h1 h2 h3 with e | e
            · rw [e]; omega
            · rw [e]; have := cmpR_ord.anti S[j2]! S[j2]!; omega⟩
          clear hc4
          go_wp2_with fail
          refine (less_any HA4.out (HRS.out _ HO4.out) j2 t HJ.out.1 HL.out.1).mono ?_
          rintro e w5 ⟨rfl, hb5⟩
          have HA5 : Hid (HAt own w5 g S) := HA4.out.grown hb5
          have HO5 : Hid (Only own w w5) := HO4.out.trans (Only.of_below (own := own) hb5) (fun _ e => .inl e)
          clear hb5
          by_cases hc5 : cmpR S[j2]! S[t]! < 0
          · rw [decide_eq_true hc5]
            have HC5 : Hid (cmpR S[j2]! S[t]! < 0) := hc5
            clear hc5
            go_wp2_with fail
            refine (swap_any HA5.out t j2 HL.out.1 HJ.out.1).mono ?_
            rintro e w6 ⟨rfl, hA6, hO6⟩
            have HA6 : Hid (HAt own w6 g (swpL S t j2)) := hA6
            have HO6 : Hid (Only own w w6) := HO5.out.trans hO6 (fun _ e => .inl e)
            clear hA6 hO6
            go_wp2_with fail
            go_roundw
            case rel => exact ⟨j2, _, rfl, ⟨(swpL_perm S t j2 HL.out.1 HJ.out.1).trans HI.out.1, by rw [swpL_get S t j2 n HL.out.1 HJ.out.1 (by have := HL.out.2.2.2; omega), if_neg (by have := HJ.out.2.1; omega), if_neg (by have := HJ.out.2; omega)]; exact HI.out.2.1, HA6.out, HO6.out, dn_step (by have := HL.out.2.2.2; omega) HJ.out.2.1 HJ.out.2.2.1 HJ.out.2.2.2.1 HI.out.2.2.2.2 HJ.out.2.2.2.2 HC5.out⟩, Nat.le_of_lt HJ.out.2.1⟩
            case measure => have h1 := HJ.out.2.2.1; have h2 := HJ.out.2.1; have h3 := HJ.out.2.2.2.1; simp [intOf]; omega
          · rw [decide_eq_false hc5]
            have HC5 : Hid (cmpR S[t]! S[j2]! ≤ 0) := by have := cmpR_ord.anti S[t]! S[j2]!; have := cmpR_ord.anti S[j2]! S[t]!; show _ ≤ _; omega
            clear hc5
            go_wp2_with fail
            go_ret
            exact ⟨_, rfl, S, HI.out.1, HI.out.2.1, dn_done HI.out.2.2.2.2 (fun k hk h0 he => cmpR_ord.trans _ _ _ HC5.out (HJ.out.2.2.2.2 k hk h0 he)), HA5.out, HO5.out⟩
        · rw [decide_eq_false hc4]
          have HJ : Hid (j1 < S.length ∧ j1 < n ∧ (j1 - 1) / 2 = t ∧ 0 < j1 ∧ ∀ k, k < n → 0 < k → (k - 1) / 2 = t → cmpR S[j1]! S[k]! ≤ 0) := ⟨HN1.out.2.1, HN1.out.1, HN1.out.2.2.1, HN1.out.2.2.2.1, fun k h1 h2 h3 => by
            rcases HK.out k h1 h2 h3 with e | e
            · rw [e]; have := cmpR_ord.anti S[j1]! S[j1]!; omega
            · rw [e]; have := cmpR_ord.anti S[j1]! S[j2]!; have := cmpR_ord.anti S[j2]! S[j1]!; omega⟩
          clear hc4
          go_wp2_with fail
          refine (less_any HA4.out (HRS.out _ HO4.out) j1 t HJ.out.1 HL.out.1).mono ?_
          rintro e w5 ⟨rfl, hb5⟩
          have HA5 : Hid (HAt own w5 g S) := HA4.out.grown hb5
          have HO5 : Hid (Only own w w5) := HO4.out.trans (Only.of_below (own := own) hb5) (fun _ e => .inl e)
          clear hb5
          by_cases hc5 : cmpR S[j1]! S[t]! < 0
          · rw [decide_eq_true hc5]
            have HC5 : Hid (cmpR S[j1]! S[t]! < 0) := hc5
            clear hc5
            go_wp2_with fail
            refine (swap_any HA5.out t j1 HL.out.1 HJ.out.1).mono ?_
            rintro e w6 ⟨rfl, hA6, hO6⟩
            have HA6 : Hid (HAt own w6 g (swpL S t j1)) := hA6
            have HO6 : Hid (Only own w w6) := HO5.out.trans hO6 (fun _ e => .inl e)
            clear hA6 hO6
            go_wp2_with fail
            go_roundw
            case rel => exact ⟨j1, _, rfl, ⟨(swpL_perm S t j1 HL.out.1 HJ.out.1).trans HI.out.1, by rw [swpL_get S t j1 n HL.out.1 HJ.out.1 (by have := HL.out.2.2.2; omega), if_neg (by have := HJ.out.2.1; omega), if_neg (by have := HJ.out.2; omega)]; exact HI.out.2.1, HA6.out, HO6.out, dn_step (by have := HL.out.2.2.2; omega) HJ.out.2.1 HJ.out.2.2.1 HJ.out.2.2.2.1 HI.out.2.2.2.2 HJ.out.2.2.2.2 HC5.out⟩, Nat.le_of_lt HJ.out.2.1⟩
            case measure => have h1 := HJ.out.2.2.1; have h2 := HJ.out.2.1; have h3 := HJ.out.2.2.2.1; simp [intOf]; omega
          · rw [decide_eq_false hc5]
            have HC5 : Hid (cmpR S[t]! S[j1]! ≤ 0) := by have := cmpR_ord.anti S[t]! S[j1]!; have := cmpR_ord.anti S[j1]! S[t]!; show _ ≤ _; omega
            clear hc5
            go_wp2_with fail
            go_ret
            exact ⟨_, rfl, S, HI.out.1, HI.out.2.1, dn_done HI.out.2.2.2.2 (fun k hk h0 he => cmpR_ord.trans _ _ _ HC5.out (HJ.out.2.2.2.2 k hk h0 he)), HA5.out, HO5.out⟩
      · have HJ : Hid (j1 < S.length ∧ j1 < n ∧ (j1 - 1) / 2 = t ∧ 0 < j1 ∧ ∀ k, k < n → 0 < k → (k - 1) / 2 = t → cmpR S[j1]! S[k]! ≤ 0) := ⟨HN1.out.2.1, HN1.out.1, HN1.out.2.2.1, HN1.out.2.2.2.1, fun k h1 h2 h3 => by
          rcases HK.out k h1 h2 h3 with e | e
          · rw [e]; have := cmpR_ord.anti S[j1]! S[j1]!; omega
          · omega⟩
        go_wp2_with fail
        refine (less_any HA.out (HRS.out _ HO.out) j1 t HJ.out.1 HL.out.1).mono ?_
        rintro e w5 ⟨rfl, hb5⟩
        have HA5 : Hid (HAt own w5 g S) := HA.out.grown hb5
        have HO5 : Hid (Only own w w5) := HO.out.trans (Only.of_below (own := own) hb5) (fun _ e => .inl e)
        clear hb5
        by_cases hc5 : cmpR S[j1]! S[t]! < 0
        · rw [decide_eq_true hc5]
          have HC5 : Hid (cmpR S[j1]! S[t]! < 0) := hc5
          clear hc5
          go_wp2_with fail
          refine (swap_any HA5.out t j1 HL.out.1 HJ.out.1).mono ?_
          rintro e w6 ⟨rfl, hA6, hO6⟩
          have HA6 : Hid (HAt own w6 g (swpL S t j1)) := hA6
          have HO6 : Hid (Only own w w6) := HO5.out.trans hO6 (fun _ e => .inl e)
          clear hA6 hO6
          go_wp2_with fail
          go_roundw
          case rel => exact ⟨j1, _, rfl, ⟨(swpL_perm S t j1 HL.out.1 HJ.out.1).trans HI.out.1, by rw [swpL_get S t j1 n HL.out.1 HJ.out.1 (by have := HL.out.2.2.2; omega), if_neg (by have := HJ.out.2.1; omega), if_neg (by have := HJ.out.2; omega)]; exact HI.out.2.1, HA6.out, HO6.out, dn_step (by have := HL.out.2.2.2; omega) HJ.out.2.1 HJ.out.2.2.1 HJ.out.2.2.2.1 HI.out.2.2.2.2 HJ.out.2.2.2.2 HC5.out⟩, Nat.le_of_lt HJ.out.2.1⟩
          case measure => have h1 := HJ.out.2.2.1; have h2 := HJ.out.2.1; have h3 := HJ.out.2.2.2.1; simp [intOf]; omega
        · rw [decide_eq_false hc5]
          have HC5 : Hid (cmpR S[t]! S[j1]! ≤ 0) := by have := cmpR_ord.anti S[t]! S[j1]!; have := cmpR_ord.anti S[j1]! S[t]!; show _ ≤ _; omega
          clear hc5
          go_wp2_with fail
          go_ret
          exact ⟨_, rfl, S, HI.out.1, HI.out.2.1, dn_done HI.out.2.2.2.2 (fun k hk h0 he => cmpR_ord.trans _ _ _ HC5.out (HJ.out.2.2.2.2 k hk h0 he)), HA5.out, HO5.out⟩
end
end Go.Proofs.Yteggjenncmjfmaa
