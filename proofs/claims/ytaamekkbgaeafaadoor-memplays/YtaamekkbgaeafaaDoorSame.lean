/-
  What marlstoneref03.Same answers: a contract over this translation.
-/
import Derived.Test.YtaamekkbgaeafaaDoorPartG
import Derived.Laws.StructEq
namespace Go.Proofs.YtaamekkbgaeafaaDoor
open Go.RowKit Go.Sort Go.Shelf
set_option linter.unusedSectionVars false
variable [Inhabited E] [DecidableEq E]
theorem stood23 : Tryd.prog.stoodInHeld 29 = false := by kernel_rfl
theorem guard23 : Tryd.prog.eqGuardType Tryd.prog.depth 29 = false := by kernel_rfl
theorem fields23 : Tryd.prog.underlying 29 = some (.struct (Tryd.prog.fieldsOf 29)) := by kernel_rfl
set_option maxRecDepth 100000 in
set_option maxHeartbeats 2000000 in
theorem equal23 (k0 v0 : ByteArray) (d0 : Bool) (q0 : Int) (k1 v1 : ByteArray) (d1 : Bool) (q1 : Int) (w : World) :
    (Op.equalIn 10000 29 (.agg #[.string k0, .string v0, .bool d0, .int .i64 q0]) (.agg #[.string k1, .string v1, .bool d1, .int .i64 q1])).run Tryd.prog w = .ok (decide ((⟨k0, v0, d0, q0⟩ : E) = ⟨k1, v1, d1, q1⟩)) w := by
  have h0 := eq_cmpS k0 k1
  have h1 := eq_cmpS v0 v1
  have hf : (Tryd.prog.fieldsOf 29).toList = [⟨"Key", 9, 0, false, "", "", 0⟩, ⟨"Value", 9, 1, false, "", "", 16⟩, ⟨"Del", 4, 2, false, "", "", 32⟩, ⟨"Seq", 3, 3, false, "", "", 40⟩] := by kernel_rfl
  have p9 : ∀ (xs : Array Value) (o : Nat) (v : Value) (w : World), xs[o]? = some v → (part 9 xs o).run Tryd.prog w = .ok v w := by
    intro xs o v w h
    simp [part, Tryd.isAgg9, h]
  have p4 : ∀ (xs : Array Value) (o : Nat) (v : Value) (w : World), xs[o]? = some v → (part 4 xs o).run Tryd.prog w = .ok v w := by
    intro xs o v w h
    simp [part, Tryd.isAgg4, h]
  have p3 : ∀ (xs : Array Value) (o : Nat) (v : Value) (w : World), xs[o]? = some v → (part 3 xs o).run Tryd.prog w = .ok v w := by
    intro xs o v w h
    simp [part, Tryd.isAgg3, h]
  rw [run_equalIn_agg w 9999 29 _ _ fields23 stood23, hf]
  simp only [Op.eqFields, Sem.run_bind, Sem.run_ite]
  rw [p9 _ 0 (.string k0) w rfl, Result.andThen_ok, p9 _ 0 (.string k1) w rfl, Result.andThen_ok, run_equalIn_string w 9998 9 k0 k1 Tryd.underlying9, Result.andThen_ok, h0]
  by_cases c0 : k0 = k1
  · subst c0
    rw [p9 _ 1 (.string v0) w rfl, Result.andThen_ok, p9 _ 1 (.string v1) w rfl, Result.andThen_ok, run_equalIn_string w 9998 9 v0 v1 Tryd.underlying9, Result.andThen_ok, h1]
    by_cases c1 : v0 = v1
    · subst c1
      rw [p4 _ 2 (.bool d0) w rfl, Result.andThen_ok, p4 _ 2 (.bool d1) w rfl, Result.andThen_ok, run_equalIn_bool' w 9998 4 d0 d1 Tryd.underlying4, Result.andThen_ok]
      by_cases c2 : d0 = d1
      · subst c2
        rw [p3 _ 3 (.int .i64 q0) w rfl, Result.andThen_ok, p3 _ 3 (.int .i64 q1) w rfl, Result.andThen_ok, run_equalIn_int w 9998 3 .i64 .i64 q0 q1 Tryd.underlying3, Result.andThen_ok]
        by_cases c3 : q0 = q1
        · subst c3; simp
        · simp [c3]
      · simp [c2]
    · simp [c1]
  · simp [c0]
set_option maxRecDepth 100000 in
set_option maxHeartbeats 2000000 in
theorem same_any (ao : Option Addr) (n c : Nat) (xs : List E) (bo : Option Addr) (m d : Nat) (ys : List E) (w : World) (hA : EntsV w ao n xs) (hB : EntsV w bo m ys) (hn : n ≤ 1000000000000) (hm : m ≤ 1000000000000) :
    Calls Tryd.prog 18 #[.slice ao n c, .slice bo m d] w fun e w' => e = .returned (.bool (decide (xs = ys))) ∧ Below w.heap.size w w' := by
  obtain ⟨r, HR⟩ : ∃ r, Hid (decide (xs = ys) = r) := ⟨_, rfl⟩
  rw [HR.out]
  have HA : Hid _ := hA
  have HB : Hid _ := hB
  clear hA hB
  have hg := guard23
  by_cases hnm : n = m
  · subst hnm
    go_enter Tryd.func18, Tryd.ntmps18
    go_wp2
    go_loopw [5] (fun x wr => ∃ i : Nat, x = .int .i64 i ∧ i ≤ n ∧ Hid (xs.take i = ys.take i) ∧ Below w.heap.size w wr) (fun x _ => n - (intOf x).toNat)
    case atStart => exact ⟨0, rfl, by omega, rfl, Below.refl _ _⟩
    case round =>
      obtain ⟨i, rfl, hin, HS, hbel⟩ := hrel
      by_cases hlt : i < n
      · have hltz : (i : Int) < (n : Int) := by omega
        obtain ⟨b, off, hao, hEn⟩ := HA.out.2 (by omega)
        obtain ⟨b2, off2, hbo, hEn2⟩ := HB.out.2 (by omega)
        have hEr := hEn.below hbel (Nat.le_refl _)
        have hEr2 := hEn2.below hbel (Nat.le_refl _)
        obtain ⟨k0, v0, d0, q0, HX⟩ : ∃ k0 v0 d0 q0, Hid (xs[i]! = E.mk k0 v0 d0 q0) := ⟨_, _, _, _, rfl⟩
        obtain ⟨k1, v1, d1, q1, HY⟩ : ∃ k0 v0 d0 q0, Hid (ys[i]! = E.mk k0 v0 d0 q0) := ⟨_, _, _, _, rfl⟩
        obtain ⟨c0, c1, c2, c3⟩ := ents_four hEr i (by have := HA.out.1; omega) HX.out
        obtain ⟨f0, f1, f2, f3⟩ := ents_four hEr2 i (by have := HB.out.1; omega) HY.out
        subst hao hbo
        have heq := fun w => equal23 k0 v0 d0 q0 k1 v1 d1 q1 w
        have HBE : Hid _ := hbel
        clear hEr hEr2 hEn hEn2 hbel
        have HSN : Hid (xs.take (i + 1) = xs.take i ++ [xs[i]!] ∧ ys.take (i + 1) = ys.take i ++ [ys[i]!]) := ⟨take_snoc xs i (by have := HA.out.1; omega), take_snoc ys i (by have := HB.out.1; omega)⟩
        by_cases he : (⟨k0, v0, d0, q0⟩ : E) = ⟨k1, v1, d1, q1⟩
        · have HE : Hid _ := he
          rw [decide_eq_true he] at heq
          clear he
          go_wp2_with fail
          go_quiet (fail)
          go_wp2
          go_roundw
          case rel => exact ⟨i + 1, by go_num, by omega, (by show _ = _; rw [HSN.out.1, HSN.out.2, HS.out, HX.out, HY.out, HE.out]), bel_drewN HBE.out nq⟩
          case measure => simp [intOf]; omega
        · have hf : r = false := by
            rw [← HR.out]
            refine decide_eq_false fun h => he ?_
            rw [← HX.out, ← HY.out, h]
          subst hf
          rw [decide_eq_false he] at heq
          clear he
          go_wp2_with fail
          go_quiet (fail)
          go_wp2
          go_ret
          exact ⟨rfl, bel_drewN HBE.out nq⟩
      · have hltz : ¬ (i : Int) < (n : Int) := by omega
        have ht : r = true := by
          rw [← HR.out]
          refine decide_eq_true ?_
          have := HS.out
          rwa [List.take_of_length_le (by have := HA.out.1; omega), List.take_of_length_le (by have := HB.out.1; omega)] at this
        subst ht
        go_wp2
        go_ret
        exact ⟨rfl, hbel⟩
  · have hf : r = false := by
      rw [← HR.out]
      refine decide_eq_false fun h => hnm ?_
      rw [← HA.out.1, ← HB.out.1, h]
    subst hf
    have hnz : ((n : Int) != (m : Int)) = true := by simp; omega
    go_enter Tryd.func18, Tryd.ntmps18
    go_wp2
    go_ret
    exact ⟨rfl, Below.refl _ _⟩
end Go.Proofs.YtaamekkbgaeafaaDoor
