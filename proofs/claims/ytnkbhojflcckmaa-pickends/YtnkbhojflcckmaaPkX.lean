/-
  Two tables compared: over this translation.
-/
import Derived.Test.YtnkbhojflcckmaaPkB
import Derived.Laws.StructEq
import Derived.Stop.BytesEq
namespace Go.Proofs.Ytnkbhojflcckmaa
open Go.RowKit
set_option linter.unusedSectionVars false
theorem info5 : (Try.prog.info? 5).map (fun i => (i.zero, i.size, i.bytes)) = some (some (.int .u8 0), 1, 1) := by kernel_rfl
theorem sizeOf5 (w : World) : (sizeOf 5).run Try.prog w = .ok 1 w := by
  obtain ⟨i0, hi, hz0, hz1, hz2⟩ := info_parts info5
  simp [sizeOf, typeInfo, hi, hz1]
theorem stood32 : Try.prog.stoodInHeld 32 = false := by kernel_rfl
theorem guard32 : Try.prog.eqGuardType Try.prog.depth 32 = false := by kernel_rfl
theorem fields32 : Try.prog.underlying 32 = some (.struct (Try.prog.fieldsOf 32)) := by kernel_rfl
theorem sizeOf30 (w : World) : (sizeOf 30).run Try.prog w = .ok 32 w := by
  obtain ⟨i, hi, h⟩ : ∃ i, Try.prog.info? 30 = some i ∧ i.size = 32 := by
    have : (Try.prog.info? 30).map (·.size) = some 32 := by kernel_rfl
    cases h : Try.prog.info? 30 with
    | none => rw [h] at this; cases this
    | some i => rw [h] at this; exact ⟨i, rfl, by simpa using this⟩
  simp [sizeOf, typeInfo, hi, h]
theorem eqF_step {d : Nat} {xs ys : Array Value} {f : Field} {fs : List Field} {w : World} {v u : Value} {b : Bool} (hn : f.name ≠ "_") (hx : (part f.type xs f.offset).run Try.prog w = .ok v w) (hy : (part f.type ys f.offset).run Try.prog w = .ok u w) (he : (Op.equalIn d f.type v u).run Try.prog w = .ok b w) : (Op.eqFields d xs ys (f :: fs)).run Try.prog w = if b then (Op.eqFields d xs ys fs).run Try.prog w else .ok false w := by
  cases b <;> simp [Op.eqFields, hn, hx, hy, he]
/-- Are two tables one? -/
def eqT (x y : Tb) : Bool := (x.lv == y.lv) && (x.ct == y.ct) && (x.root == y.root) && (x.first.toList == y.first.toList) && (x.last.toList == y.last.toList)
theorem eqT_iff (x y : Tb) : eqT x y = true ↔ x = y := by
  unfold eqT
  rw [eq_cmpS, eq_cmpS]
  simp only [Bool.and_eq_true, decide_eq_true_eq, beq_iff_eq]
  exact ⟨fun ⟨⟨⟨⟨a, b⟩, c⟩, d⟩, e⟩ => Tb.same a b c d e, fun h => by subst h; simp⟩
set_option maxRecDepth 100000 in
set_option maxHeartbeats 2000000 in
theorem equal32 (x y : Tb) (w : World) : (Op.equalIn 10000 32 (.agg (encT x).toArray) (.agg (encT y).toArray)).run Try.prog w = .ok (eqT x y) w := by
  have hf : (Try.prog.fieldsOf 32).toList = [⟨"Level", 3, 0, false, "", "", 0⟩, ⟨"Count", 3, 1, false, "", "", 8⟩, ⟨"Root", 30, 2, false, "", "", 16⟩, ⟨"First", 9, 34, false, "", "", 48⟩, ⟨"Last", 9, 35, false, "", "", 64⟩] := by kernel_rfl
  have p9 : ∀ (xs : Array Value) (o : Nat) (v : Value) (w : World), xs[o]? = some v → (part 9 xs o).run Try.prog w = .ok v w := by
    intro xs o v w h
    simp [part, Try.isAgg9, h]
  have p3 : ∀ (xs : Array Value) (o : Nat) (v : Value) (w : World), xs[o]? = some v → (part 3 xs o).run Try.prog w = .ok v w := by
    intro xs o v w h
    simp [part, Try.isAgg3, h]
  have pd : ∀ (x : Tb), (part 30 (encT x).toArray 2).run Try.prog w = .ok (.agg (cellsOf x.root).toArray) w := fun x => by
    have hz2 := encT_len x
    have hx2 : List.take 32 (List.drop 2 (encT x)) = cellsOf x.root := by
      show List.take 32 (cellsOf x.root ++ _) = _
      rw [show 32 = (cellsOf x.root).length by rw [cellsOf_length, x.hr], List.take_left]
    simp [part, Try.isAgg30, hx2, hz2]
  rw [run_equalIn_agg w 9999 32 _ _ fields32 stood32, hf]
  have r0 := fun x : Tb => p3 (encT x).toArray 0 (.int .i64 x.lv) w (by simpa using encT_0 x)
  have r1 := fun x : Tb => p3 (encT x).toArray 1 (.int .i64 x.ct) w (by simpa using encT_1 x)
  have r3 := fun x : Tb => p9 (encT x).toArray 34 (.string x.first) w (by simpa using encT_34 x)
  have r4 := fun x : Tb => p9 (encT x).toArray 35 (.string x.last) w (by simpa using encT_35 x)
  have f0 : (Op.equalIn 9999 3 (.int .i64 x.lv) (.int .i64 y.lv)).run Try.prog w = .ok (x.lv == y.lv) w := by rw [run_equalIn_int w 9998 3 .i64 .i64 _ _ Try.underlying3]
  have f1 : (Op.equalIn 9999 3 (.int .i64 x.ct) (.int .i64 y.ct)).run Try.prog w = .ok (x.ct == y.ct) w := by rw [run_equalIn_int w 9998 3 .i64 .i64 _ _ Try.underlying3]
  have f2 : (Op.equalIn 9999 30 (.agg (cellsOf x.root).toArray) (.agg (cellsOf y.root).toArray)).run Try.prog w = .ok (x.root == y.root) w :=
    run_equalIn_bytes (P := Try.prog) w 9997 30 5 32 Try.underlying30 Try.underlying5 sizeOf5 x.root y.root x.hr y.hr
  have f3 : (Op.equalIn 9999 9 (.string x.first) (.string y.first)).run Try.prog w = .ok (x.first.toList == y.first.toList) w := run_equalIn_string w 9998 9 _ _ Try.underlying9
  have f4 : (Op.equalIn 9999 9 (.string x.last) (.string y.last)).run Try.prog w = .ok (x.last.toList == y.last.toList) w := run_equalIn_string w 9998 9 _ _ Try.underlying9
  rw [eqF_step (by decide) (r0 x) (r0 y) f0, eqF_step (by decide) (r1 x) (r1 y) f1, eqF_step (by decide) (pd x) (pd y) f2, eqF_step (by decide) (r3 x) (r3 y) f3, eqF_step (by decide) (r4 x) (r4 y) f4]
  unfold eqT
  generalize (x.lv == y.lv) = a0
  generalize (x.ct == y.ct) = a1
  generalize (x.root == y.root) = a2
  generalize (x.first.toList == y.first.toList) = a3
  generalize (x.last.toList == y.last.toList) = a4
  cases a0 <;> cases a1 <;> cases a2 <;> cases a3 <;> cases a4 <;> simp [Op.eqFields]
end Go.Proofs.Ytnkbhojflcckmaa
