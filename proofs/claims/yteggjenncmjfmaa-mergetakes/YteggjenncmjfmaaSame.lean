/-
  What marlstoneref03.Same answers: a contract over this translation.
-/
import Derived.Test.YteggjenncmjfmaaFoldM
import Derived.Laws.StructEq
namespace Go.Proofs.Yteggjenncmjfmaa
open Go.RowKit Go.Sort Go.Shelf
set_option linter.unusedSectionVars false
variable [Inhabited E] [DecidableEq E]
theorem stood23 : Try.prog.stoodInHeld 29 = false := by kernel_rfl
theorem guard23 : Try.prog.eqGuardType Try.prog.depth 29 = false := by kernel_rfl
theorem fields23 : Try.prog.underlying 29 = some (.struct (Try.prog.fieldsOf 29)) := by kernel_rfl
set_option maxRecDepth 100000 in
set_option maxHeartbeats 2000000 in
theorem equal23 (k0 v0 : ByteArray) (d0 : Bool) (q0 : Int) (k1 v1 : ByteArray) (d1 : Bool) (q1 : Int) (w : World) :
    (Op.equalIn 10000 29 (.agg #[.string k0, .string v0, .bool d0, .int .i64 q0]) (.agg #[.string k1, .string v1, .bool d1, .int .i64 q1])).run Try.prog w = .ok (decide ((⟨k0, v0, d0, q0⟩ : E) = ⟨k1, v1, d1, q1⟩)) w := by
  have h0 := eq_cmpS k0 k1
  have h1 := eq_cmpS v0 v1
  have hf : (Try.prog.fieldsOf 29).toList = [⟨"Key", 9, 0, false, "", "", 0⟩, ⟨"Value", 9, 1, false, "", "", 16⟩, ⟨"Del", 4, 2, false, "", "", 32⟩, ⟨"Seq", 3, 3, false, "", "", 40⟩] := by kernel_rfl
  have p9 : ∀ (xs : Array Value) (o : Nat) (v : Value) (w : World), xs[o]? = some v → (part 9 xs o).run Try.prog w = .ok v w := by
    intro xs o v w h
    simp [part, Try.isAgg9, h]
  have p4 : ∀ (xs : Array Value) (o : Nat) (v : Value) (w : World), xs[o]? = some v → (part 4 xs o).run Try.prog w = .ok v w := by
    intro xs o v w h
    simp [part, Try.isAgg4, h]
  have p3 : ∀ (xs : Array Value) (o : Nat) (v : Value) (w : World), xs[o]? = some v → (part 3 xs o).run Try.prog w = .ok v w := by
    intro xs o v w h
    simp [part, Try.isAgg3, h]
  rw [run_equalIn_agg w 9999 29 _ _ fields23 stood23, hf]
  simp only [Op.eqFields, Sem.run_bind, Sem.run_ite]
  rw [p9 _ 0 (.string k0) w rfl, Result.andThen_ok, p9 _ 0 (.string k1) w rfl, Result.andThen_ok, run_equalIn_string w 9998 9 k0 k1 Try.underlying9, Result.andThen_ok, h0]
  by_cases c0 : k0 = k1
  · subst c0
    rw [p9 _ 1 (.string v0) w rfl, Result.andThen_ok, p9 _ 1 (.string v1) w rfl, Result.andThen_ok, run_equalIn_string w 9998 9 v0 v1 Try.underlying9, Result.andThen_ok, h1]
    by_cases c1 : v0 = v1
    · subst c1
      rw [p4 _ 2 (.bool d0) w rfl, Result.andThen_ok, p4 _ 2 (.bool d1) w rfl, Result.andThen_ok, run_equalIn_bool' w 9998 4 d0 d1 Try.underlying4, Result.andThen_ok]
      by_cases c2 : d0 = d1
      · subst c2
        rw [p3 _ 3 (.int .i64 q0) w rfl, Result.andThen_ok, p3 _ 3 (.int .i64 q1) w rfl, Result.andThen_ok, run_equalIn_int w 9998 3 .i64 .i64 q0 q1 Try.underlying3, Result.andThen_ok]
        by_cases c3 : q0 = q1
        · subst c3; simp
        · simp [c3]
      · simp [c2]
    · simp [c1]
  · simp [c0]
end Go.Proofs.Yteggjenncmjfmaa
