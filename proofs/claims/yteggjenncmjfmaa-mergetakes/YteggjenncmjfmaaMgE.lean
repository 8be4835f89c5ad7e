/-
  The library's heap over the heads: contracts over this translation.
-/
import Derived.Test.YteggjenncmjfmaaMgD
namespace Go.Proofs.Yteggjenncmjfmaa
open Go.RowKit
set_option linter.unusedSectionVars false
variable [Inhabited E] [DecidableEq E] [Inhabited RV]
theorem ms (g : Nat) (w : World) : (method 186 38 (.pointer (some ⟨g, 0, none⟩)) "Swap").run Try.prog w = .ok (59, .pointer (some ⟨g, 0, none⟩)) w := by kernel_rfl
theorem mless (g : Nat) (w : World) : (method 186 38 (.pointer (some ⟨g, 0, none⟩)) "Less").run Try.prog w = .ok (56, .pointer (some ⟨g, 0, none⟩)) w := by kernel_rfl
theorem mlen (g : Nat) (w : World) : (method 186 38 (.pointer (some ⟨g, 0, none⟩)) "Len").run Try.prog w = .ok (20, .pointer (some ⟨g, 0, none⟩)) w := by kernel_rfl
theorem mpush (g : Nat) (w : World) : (method 186 38 (.pointer (some ⟨g, 0, none⟩)) "Push").run Try.prog w = .ok (58, .pointer (some ⟨g, 0, none⟩)) w := by kernel_rfl
theorem mpop (g : Nat) (w : World) : (method 186 38 (.pointer (some ⟨g, 0, none⟩)) "Pop").run Try.prog w = .ok (57, .pointer (some ⟨g, 0, none⟩)) w := by kernel_rfl
section
variable {own : Nat → Prop} {w : World} {g : Nat} {R : List RV} {v : Value}
theorem HAt.sub (h : HAt own w g R) {w0 : World} {own0 : Nat → Prop} (hs : ∀ k, k < w.heap.size → own k → grow own0 w0 k) : HAt (grow own0 w0) w g R := h.mono hs
set_option maxRecDepth 100000 in
set_option maxHeartbeats 1000000 in
theorem up_any (h : HAt own w g R) (w0 : World) (hw0 : Below w0.heap.size w0 w) (hown : ∀ k, own k → w0.heap.size ≤ k) (hR : RowsIn w0 R) (j : Nat) (hj : j < R.length) (hu : UpInv cmpR R j) (hb : R.length ≤ 1000000) :
    Calls Try.prog 38 #[.iface 38 (.pointer (some ⟨g, 0, none⟩)), .int .i64 (j : Int)] w fun e w' => e = .returned (.tuple #[]) ∧ ∃ S, S.Perm R ∧ Heap cmpR S S.length ∧ HAt own w' g S ∧ Only own w w' := by
  have HR : Hid (RowsIn w0 R) := hR
  have HW0 : Hid (Below w0.heap.size w0 w ∧ (∀ k, own k → w0.heap.size ≤ k) ∧ R.length ≤ 1000000) := ⟨hw0, hown, hb⟩
  have HST : Hid (HAt own w g R ∧ UpInv cmpR R j ∧ j < R.length) := ⟨h, hu, hj⟩
  have m1 := mless g
  have m2 := ms g
  clear hR hw0 hown hb h hu hj
  go_enter Try.func38, Try.ntmps38
  go_wp2_with fail
  go_loopw [1] (fun x wr => ∃ (t : Nat) (S : List RV), x = .int .i64 t ∧ Hid (S.Perm R ∧ HAt own wr g S ∧ Only own w wr ∧ UpInv cmpR S t ∧ t < S.length)) (fun x _ => (intOf x).toNat)
  case atStart => exact ⟨j, R, rfl, List.Perm.refl _, HST.out.1, Only.refl _ _, HST.out.2.1, HST.out.2.2⟩
  case round =>
    obtain ⟨t, S, rfl, HI⟩ := hrel
    by_cases h0 : t = 0
    · subst h0
      go_wp2_with fail
      go_end0
      exact ⟨rfl, S, HI.out.1, up_top HI.out.2.2.2.1, HI.out.2.1, HI.out.2.2.1⟩
    · obtain ⟨q, HQ⟩ : ∃ q, Hid ((t - 1) / 2 = q) := ⟨_, rfl⟩
      have hq : ((t : Int) - 1) / 2 = (q : Int) := by have := HQ.out; omega
      have h1t : (1 : Int) ≤ (t : Int) := by omega
      have htb : (t : Int) ≤ 1000000 := by have h1 := HI.out.1.length_eq; have h2 := HI.out.2.2.2.2; have h3 := HW0.out.2.2; omega
      have hqt : ¬ (q : Int) = (t : Int) := by have := HQ.out; omega
      have HL : Hid (t < S.length ∧ q < S.length ∧ 0 < t) := ⟨HI.out.2.2.2.2, by have := HQ.out; have := HI.out.2.2.2.2; omega, by omega⟩
      have HBW : Hid (Below w0.heap.size w0 wr) := HW0.out.1.trans (HI.out.2.2.1.below HW0.out.2.1 HW0.out.1.size)
      have HRS : Hid (RowsIn wr S) := (HR.out.perm HI.out.1).below HBW.out (Nat.le_refl _)
      clear h0
      go_wp2_with fail
      refine (less_any HI.out.2.1 HRS.out t q HL.out.1 HL.out.2.1).mono ?_
      rintro e w1 ⟨rfl, hb1⟩
      have HA1 : Hid (HAt own w1 g S) := HI.out.2.1.grown hb1
      have HO1 : Hid (Only own w w1) := HI.out.2.2.1.trans (Only.of_below (own := own) hb1) (fun _ e => .inl e)
      clear hb1
      by_cases hc : cmpR S[t]! S[q]! < 0
      · rw [decide_eq_true hc]
        have HC : Hid (cmpR S[t]! S[q]! < 0) := hc
        clear hc
        go_wp2_with fail
        refine (swap_any HA1.out q t HL.out.2.1 HL.out.1).mono ?_
        rintro e w2 ⟨rfl, hA2, hO2⟩
        have HA2 : Hid (HAt own w2 g (swpL S q t)) := hA2
        have HO2 : Hid (Only own w w2) := HO1.out.trans hO2 (fun _ e => .inl e)
        clear hA2 hO2
        go_wp2_with fail
        go_roundw
        case rel =>
          have hst := up_step cmpR_ord HL.out.1 HL.out.2.2 HI.out.2.2.2.1 (by rw [HQ.out]; exact HC.out)
          rw [HQ.out] at hst
          exact ⟨q, _, rfl, (swpL_perm S q t HL.out.2.1 HL.out.1).trans HI.out.1, HA2.out, HO2.out, hst, by rw [swpL_len]; exact HL.out.2.1⟩
        case measure => simp [intOf]; omega
      · rw [decide_eq_false hc]
        have HC : Hid (cmpR S[q]! S[t]! ≤ 0) := by have := cmpR_ord.anti S[t]! S[q]!; have := cmpR_ord.anti S[q]! S[t]!; show _ ≤ _; omega
        clear hc
        go_wp2_with fail
        go_end0
        exact ⟨rfl, S, HI.out.1, up_done HI.out.2.2.2.1 (by rw [HQ.out]; exact HC.out), HA1.out, HO1.out⟩
end
end Go.Proofs.Yteggjenncmjfmaa
