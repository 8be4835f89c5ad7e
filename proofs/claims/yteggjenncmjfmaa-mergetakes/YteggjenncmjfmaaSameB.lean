/-
  What the document's Same answers: a contract over this translation.
-/
import Derived.Test.YteggjenncmjfmaaFoldsL
namespace Go.Proofs.Yteggjenncmjfmaa
open Go.RowKit Go.Sort Go.Shelf
set_option linter.unusedSectionVars false
variable [Inhabited E] [DecidableEq E]
theorem same_any (ao : Option Addr) (n c : Nat) (xs : List E) (bo : Option Addr) (m d : Nat) (ys : List E) (w : World) (hA : EntsV w ao n xs) (hB : EntsV w bo m ys) (hn : n ≤ 1000000000000) (hm : m ≤ 1000000000000) :
    Calls Try.prog 12 #[.slice ao n c, .slice bo m d] w fun e w' => e = .returned (.bool (decide (xs = ys))) ∧ Below w.heap.size w w' := by
  obtain ⟨r, HR⟩ : ∃ r, Hid (decide (xs = ys) = r) := ⟨_, rfl⟩
  rw [HR.out]
  have HA : Hid _ := hA
  have HB : Hid _ := hB
  clear hA hB
  have hg := guard23
  by_cases hnm : n = m
  · subst hnm
    go_enter Try.func12, Try.ntmps12
    go_wp2
    go_loopw [5] (fun x wr => ∃ i : Nat, x = .int .i64 i ∧ i ≤ n ∧ Hid (xs.take i = ys.take i) ∧ Below w.heap.size w wr) (fun x _ => n - (intOf x).toNat)
    case atStart => exact ⟨0, rfl, by omega, rfl, Below.refl _ _⟩
    case round =>
      obtain ⟨i, rfl, hin, HS, hbel⟩ := hrel
      by_cases hlt : i < n
      · have hltz : (i : Int) < (n : Int) := by omega
        obtain ⟨b, off, hao, hEn⟩ := HA.out.2 (by omega)
        obtain ⟨b2, off2, hbo, hEn2⟩ := HB.out.2 (by omega)
        have hEr := hEn.below hbel (Nat.le_refl _)
        have hEr2 := hEn2.below hbel (Nat.le_refl _)
        obtain ⟨k0, v0, d0, q0, HX⟩ : ∃ k0 v0 d0 q0, Hid (xs[i]! = E.mk k0 v0 d0 q0) := ⟨_, _, _, _, rfl⟩
        obtain ⟨k1, v1, d1, q1, HY⟩ : ∃ k0 v0 d0 q0, Hid (ys[i]! = E.mk k0 v0 d0 q0) := ⟨_, _, _, _, rfl⟩
        obtain ⟨c0, c1, c2, c3⟩ := ents_four hEr i (by have := HA.out.1; omega) HX.out
        obtain ⟨f0, f1, f2, f3⟩ := ents_four hEr2 i (by have := HB.out.1; omega) HY.out
        subst hao hbo
        have heq := fun w => equal23 k0 v0 d0 q0 k1 v1 d1 q1 w
        have HBE : Hid _ := hbel
        clear hEr hEr2 hEn hEn2 hbel
        have HSN : Hid (xs.take (i + 1) = xs.take i ++ [xs[i]!] ∧ ys.take (i + 1) = ys.take i ++ [ys[i]!]) := ⟨take_snoc xs i (by have := HA.out.1; omega), take_snoc ys i (by have := HB.out.1; omega)⟩
        by_cases he : (⟨k0, v0, d0, q0⟩ : E) = ⟨k1, v1, d1, q1⟩
        · have HE : Hid _ := he
          rw [decide_eq_true he] at heq
          clear he
          go_wp2_with fail
          go_quiet (fail)
          go_wp2
          go_roundw
          case rel => exact ⟨i + 1, by go_num, by omega, (by show _ = _; rw [HSN.out.1, HSN.out.2, HS.out, HX.out, HY.out, HE.out]), bel_drewN HBE.out nq⟩
          case measure => simp [intOf]; omega
        · have hf : r = false := by
            rw [← HR.out]
            refine decide_eq_false fun h => he ?_
            rw [← HX.out, ← HY.out, h]
          subst hf
          rw [decide_eq_false he] at heq
          clear he
          go_wp2_with fail
          go_quiet (fail)
          go_wp2
          go_ret
          exact ⟨rfl, bel_drewN HBE.out nq⟩
      · have hltz : ¬ (i : Int) < (n : Int) := by omega
        have ht : r = true := by
          rw [← HR.out]
          refine decide_eq_true ?_
          have := HS.out
          rwa [List.take_of_length_le (by have := HA.out.1; omega), List.take_of_length_le (by have := HB.out.1; omega)] at this
        subst ht
        go_wp2
        go_ret
        exact ⟨rfl, hbel⟩
  · have hf : r = false := by
      rw [← HR.out]
      refine decide_eq_false fun h => hnm ?_
      rw [← HA.out.1, ← HB.out.1, h]
    subst hf
    have hnz : ((n : Int) != (m : Int)) = true := by simp; omega
    go_enter Try.func12, Try.ntmps12
    go_wp2
    go_ret
    exact ⟨rfl, Below.refl _ _⟩
end Go.Proofs.Yteggjenncmjfmaa
