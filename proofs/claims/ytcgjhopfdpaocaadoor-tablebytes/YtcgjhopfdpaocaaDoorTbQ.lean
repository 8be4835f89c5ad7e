/-
  Two tables that are known alike are equal: what '==' answers of them.
-/
import Derived.Test.YtcgjhopfdpaocaaDoorTbO
namespace Go.Proofs.YtcgjhopfdpaocaaDoor
open Go.RowKit Go.Sort Go.Shelf
set_option linter.unusedSectionVars false
variable [Inhabited E] [DecidableEq E]
theorem stood34 : Tryd.prog.stoodInHeld 34 = false := by kernel_rfl
theorem guard34 : Tryd.prog.eqGuardType Tryd.prog.depth 34 = false := by kernel_rfl
theorem fields34 : Tryd.prog.underlying 34 = some (.struct (Tryd.prog.fieldsOf 34)) := by kernel_rfl
theorem sizeOf32 (w : World) : (sizeOf 32).run Tryd.prog w = .ok 32 w := by
  obtain ⟨i, hi, h⟩ : ∃ i, Tryd.prog.info? 32 = some i ∧ i.size = 32 := by
    have : (Tryd.prog.info? 32).map (·.size) = some 32 := by kernel_rfl
    cases h : Tryd.prog.info? 32 with
    | none => rw [h] at this; cases this
    | some i => rw [h] at this; exact ⟨i, rfl, by simpa using this⟩
  simp [sizeOf, typeInfo, hi, h]
theorem tabC_dig (lv n : Int) (d : List UInt8) (k1 k2 : ByteArray) (hd : d.length = 32) : (tabC lv n d k1 k2).extract 2 34 = (cellsOf d).toArray := by
  have hl : (cellsOf d).length = 32 := by rw [cellsOf_length, hd]
  unfold tabC
  apply Array.ext'
  rw [Array.toList_extract, List.toList_toArray, List.extract_eq_take_drop]
  simp only [List.drop_succ_cons, List.drop_zero]
  rw [show 34 - 2 = (cellsOf d).length from hl.symm, List.take_left]
theorem eqF_step {d : Nat} {xs ys : Array Value} {f : Field} {fs : List Field} {w : World} {v u : Value} (hn : f.name ≠ "_") (hx : (part f.type xs f.offset).run Tryd.prog w = .ok v w) (hy : (part f.type ys f.offset).run Tryd.prog w = .ok u w) (he : (Op.equalIn d f.type v u).run Tryd.prog w = .ok true w) : (Op.eqFields d xs ys (f :: fs)).run Tryd.prog w = (Op.eqFields d xs ys fs).run Tryd.prog w := by
  simp [Op.eqFields, hn, hx, hy, he]
set_option maxRecDepth 100000 in
set_option maxHeartbeats 2000000 in
theorem equal34 (lv n : Int) (d : List UInt8) (k1 k2 : ByteArray) (hd : d.length = 32) (w : World) :
    (Op.equalIn 10000 34 (.agg (tabC lv n d k1 k2)) (.agg (tabC lv n d k1 k2))).run Tryd.prog w = .ok true w := by
  have hf : (Tryd.prog.fieldsOf 34).toList = [⟨"Level", 3, 0, false, "", "", 0⟩, ⟨"Count", 3, 1, false, "", "", 8⟩, ⟨"Root", 32, 2, false, "", "", 16⟩, ⟨"First", 9, 34, false, "", "", 48⟩, ⟨"Last", 9, 35, false, "", "", 64⟩] := by kernel_rfl
  have p9 : ∀ (xs : Array Value) (o : Nat) (v : Value) (w : World), xs[o]? = some v → (part 9 xs o).run Tryd.prog w = .ok v w := by
    intro xs o v w h
    simp [part, Tryd.isAgg9, h]
  have p3 : ∀ (xs : Array Value) (o : Nat) (v : Value) (w : World), xs[o]? = some v → (part 3 xs o).run Tryd.prog w = .ok v w := by
    intro xs o v w h
    simp [part, Tryd.isAgg3, h]
  have hl : (cellsOf d).length = 32 := by rw [cellsOf_length, hd]
  have q0 : (tabC lv n d k1 k2)[0]? = some (.int .i64 lv) := rfl
  have q1 : (tabC lv n d k1 k2)[1]? = some (.int .i64 n) := rfl
  have q3 : (tabC lv n d k1 k2)[34]? = some (.string k1) := by
    simp only [tabC, List.getElem?_toArray]
    rw [List.getElem?_cons_succ, List.getElem?_cons_succ, List.getElem?_append_right (by omega), hl]; rfl
  have q4 : (tabC lv n d k1 k2)[35]? = some (.string k2) := by
    simp only [tabC, List.getElem?_toArray]
    rw [List.getElem?_cons_succ, List.getElem?_cons_succ, List.getElem?_append_right (by omega), hl]; rfl
  have q2 : (part 32 (tabC lv n d k1 k2) 2).run Tryd.prog w = .ok (.agg (cellsOf d).toArray) w := by
    have hz := tabC_size lv n hd k1 k2
    have hx := tabC_dig lv n d k1 k2 hd
    simp [part, Tryd.isAgg32, hx, hz]
  have e1 := eq_cmpS k1 k1
  have e2 := eq_cmpS k2 k2
  rw [run_equalIn_agg w 9999 34 _ _ fields34 stood34, hf]
  generalize hT : tabC lv n d k1 k2 = T at q0 q1 q2 q3 q4
  have r0 := p3 _ 0 (.int .i64 lv) w q0
  have r1 := p3 _ 1 (.int .i64 n) w q1
  have r3 := p9 _ 34 (.string k1) w q3
  have r4 := p9 _ 35 (.string k2) w q4
  have f0 : (Op.equalIn 9999 3 (.int .i64 lv) (.int .i64 lv)).run Tryd.prog w = .ok true w := by rw [run_equalIn_int w 9998 3 .i64 .i64 lv lv Tryd.underlying3]; simp
  have f1 : (Op.equalIn 9999 3 (.int .i64 n) (.int .i64 n)).run Tryd.prog w = .ok true w := by rw [run_equalIn_int w 9998 3 .i64 .i64 n n Tryd.underlying3]; simp
  have f2 : (Op.equalIn 9999 32 (.agg (cellsOf d).toArray) (.agg (cellsOf d).toArray)).run Tryd.prog w = .ok true w := by
    have := run_equalIn_bytes (P := Tryd.prog) w 9997 32 5 32 Tryd.underlying32 Tryd.underlying5 Sm.sizeOf5 d d hd hd
    rw [beq_self_eq_true] at this; exact this
  have f3 : (Op.equalIn 9999 9 (.string k1) (.string k1)).run Tryd.prog w = .ok true w := by rw [run_equalIn_string w 9998 9 k1 k1 Tryd.underlying9, e1]; simp
  have f4 : (Op.equalIn 9999 9 (.string k2) (.string k2)).run Tryd.prog w = .ok true w := by rw [run_equalIn_string w 9998 9 k2 k2 Tryd.underlying9, e2]; simp
  rw [eqF_step (by decide) r0 r0 f0, eqF_step (by decide) r1 r1 f1, eqF_step (by decide) q2 q2 f2, eqF_step (by decide) r3 r3 f3, eqF_step (by decide) r4 r4 f4]
  simp [Op.eqFields]
end Go.Proofs.YtcgjhopfdpaocaaDoor
