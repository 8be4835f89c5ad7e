/-
  The document's Find leaves the world as it was; the walk of the law MergeNewest.
-/
import Derived.Test.YteggjenncmjfmaaMgV
import Derived.Test.YteggjenncmjfmaaRefF
import Derived.Deep.DeepCutAuto
namespace Go.Proofs.Yteggjenncmjfmaa
open Go.RowKit Go.Sort Go.Shelf
set_option linter.unusedSectionVars false
set_option linter.unusedVariables false
variable [Inhabited E] [DecidableEq E]
set_option maxRecDepth 100000 in
set_option maxHeartbeats 2000000 in
theorem refFind_same (ao : Option Addr) (n c : Nat) (es : List E) (key : ByteArray) (w : World) (hE : EntsV w ao n es) (hbig : n ≤ 1000000000000) :
    Calls Try.prog 15 #[.slice ao n c, .string key] w fun e w' => e = .returned (.tuple #[.int .i64 (belowN key es : Nat), .bool (isIn key es)]) ∧ w' = w := by
  have HE : Hid (EntsV w ao n es) := hE
  clear hE
  go_enter Try.func15, Try.ntmps15
  go_wp2
  go_loopw [6, 7, 8] (fun s6 s7 x wr => ∃ i : Nat, x = .int .i64 i ∧ i ≤ n ∧ s6 = .int .i64 (belowN key (es.take i) : Nat) ∧ s7 = .bool (isIn key (es.take i)) ∧ w = wr) (fun _ _ x _ => n - (intOf x).toNat)
  case atStart => exact ⟨0, rfl, by omega, rfl, rfl, rfl⟩
  case round =>
    obtain ⟨i, rfl, hin, rfl, rfl, rfl⟩ := hrel
    by_cases hlt : i < n
    · have hltz : (i : Int) < (n : Int) := by omega
      obtain ⟨b, off, hao, hEn⟩ := HE.out.2 (by omega)
      have hln := HE.out.1
      have hEr : Ents w b off es := hEn
      obtain ⟨k0, v0, d0, q0, HX⟩ : ∃ k0 v0 d0 q0, Hid (es[i]! = E.mk k0 v0 d0 q0) := ⟨_, _, _, _, rfl⟩
      obtain ⟨c0, c1, c2, c3⟩ := ents_four hEr i (by omega) HX.out
      subst hao
      obtain ⟨m, HM⟩ : ∃ m, Hid (belowN key (es.take i) = m) := ⟨_, rfl⟩
      obtain ⟨y, HY⟩ : ∃ y, Hid (isIn key (es.take i) = y) := ⟨_, rfl⟩
      rw [HM.out, HY.out]
      have hm : m ≤ n := by rw [← HM.out]; have := belowN_le key (es.take i); rw [List.length_take] at this; omega
      have HM2 : Hid (belowN key (es.take (i + 1)) = m + if cmpS k0 key < 0 then 1 else 0) := by
        show _ = _
        rw [take_snoc es i (by omega), HX.out, ← HM.out]
        unfold belowN
        rw [List.countP_append]
        by_cases h : cmpS k0 key < 0 <;> simp [h]
      have HY2 : Hid (isIn key (es.take (i + 1)) = (y || decide (k0 = key))) := by
        show _ = _
        rw [take_snoc es i (by omega), HX.out, ← HY.out]
        unfold isIn
        rw [List.any_append]
        simp
      clear hEr hEn hln
      have e1 := less_cmpS k0 key
      have e2 := eq_cmpS k0 key
      by_cases h1 : cmpS k0 key < 0
      · have e1' : Op.bytesLess k0.toList key.toList = true := by rw [e1]; exact decide_eq_true h1
        have h2 : ¬ k0 = key := fun h => by rw [h] at h1; have := cmpS_ord.self key; omega
        have e2' : (k0.toList == key.toList) = false := by rw [e2]; exact decide_eq_false h2
        clear e1 e2
        cases y with
        | true =>
          go_wp2
          go_roundw
          case rel => exact ⟨i + 1, by go_num, by omega, by rw [HM2.out, if_pos h1]; go_num, by rw [HY2.out, decide_eq_false h2, Bool.or_false], trivial⟩
          case measure => simp [intOf]; omega
        | false =>
          go_wp2
          go_roundw
          case rel => exact ⟨i + 1, by go_num, by omega, by rw [HM2.out, if_pos h1]; go_num, by rw [HY2.out, decide_eq_false h2, Bool.or_false], trivial⟩
          case measure => simp [intOf]; omega
      · have e1' : Op.bytesLess k0.toList key.toList = false := by rw [e1]; exact decide_eq_false h1
        by_cases h2 : k0 = key
        · have e2' : (k0.toList == key.toList) = true := by rw [e2]; exact decide_eq_true h2
          have H2 : Hid _ := h2
          clear e1 e2 h2
          cases y with
          | true =>
            go_wp2
            go_roundw
            case rel => exact ⟨i + 1, by go_num, by omega, by rw [HM2.out, if_neg h1]; rfl, by rw [HY2.out, decide_eq_true H2.out, Bool.or_true], trivial⟩
            case measure => simp [intOf]; omega
          | false =>
            go_wp2
            go_roundw
            case rel => exact ⟨i + 1, by go_num, by omega, by rw [HM2.out, if_neg h1]; rfl, by rw [HY2.out, decide_eq_true H2.out, Bool.or_true], trivial⟩
            case measure => simp [intOf]; omega
        · have e2' : (k0.toList == key.toList) = false := by rw [e2]; exact decide_eq_false h2
          clear e1 e2
          cases y with
          | true =>
            go_wp2
            go_roundw
            case rel => exact ⟨i + 1, by go_num, by omega, by rw [HM2.out, if_neg h1]; rfl, by rw [HY2.out, decide_eq_false h2, Bool.or_false], trivial⟩
            case measure => simp [intOf]; omega
          | false =>
            go_wp2
            go_roundw
            case rel => exact ⟨i + 1, by go_num, by omega, by rw [HM2.out, if_neg h1]; rfl, by rw [HY2.out, decide_eq_false h2, Bool.or_false], trivial⟩
            case measure => simp [intOf]; omega
    · have hltz : ¬ (i : Int) < (n : Int) := by omega
      have HT : Hid (es.take i = es) := by show _ = _; rw [List.take_of_length_le (by rw [HE.out.1]; omega)]
      rw [HT.out]
      obtain ⟨m, HM⟩ : ∃ m, Hid (belowN key es = m) := ⟨_, rfl⟩
      obtain ⟨y, HY⟩ : ∃ y, Hid (isIn key es = y) := ⟨_, rfl⟩
      rw [HM.out, HY.out]
      go_wp2
      go_ret2
      exact ⟨by rw [HM.out, HY.out]; rfl, rfl⟩
end Go.Proofs.Yteggjenncmjfmaa
