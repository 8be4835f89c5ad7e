/-
  What Same of two lists answers: a contract over this translation.
-/
import Derived.Test.YtiimmknnlciljaaDoorSuS
import Derived.Laws.StructEq
namespace Go.Proofs.YtiimmknnlciljaaDoor
open Go.RowKit Go.Sort Go.Shelf
set_option linter.unusedSectionVars false
variable [Inhabited E] [DecidableEq E]
theorem stood51 : Tryd.prog.stoodInHeld 51 = false := by kernel_rfl
theorem guard51 : Tryd.prog.eqGuardType Tryd.prog.depth 51 = false := by kernel_rfl
theorem fields51 : Tryd.prog.underlying 51 = some (.struct (Tryd.prog.fieldsOf 51)) := by kernel_rfl
theorem sizeOf32 (w : World) : (sizeOf 32).run Tryd.prog w = .ok 32 w := by
  obtain ⟨i, hi, h⟩ : ∃ i, Tryd.prog.info? 32 = some i ∧ i.size = 32 := by
    have : (Tryd.prog.info? 32).map (·.size) = some 32 := by kernel_rfl
    cases h : Tryd.prog.info? 32 with
    | none => rw [h] at this; cases this
    | some i => rw [h] at this; exact ⟨i, rfl, by simpa using this⟩
  simp [sizeOf, typeInfo, hi, h]
theorem eqF_step {d : Nat} {xs ys : Array Value} {f : Field} {fs : List Field} {w : World} {v u : Value} {b : Bool} (hn : f.name ≠ "_") (hx : (part f.type xs f.offset).run Tryd.prog w = .ok v w) (hy : (part f.type ys f.offset).run Tryd.prog w = .ok u w) (he : (Op.equalIn d f.type v u).run Tryd.prog w = .ok b w) : (Op.eqFields d xs ys (f :: fs)).run Tryd.prog w = if b then (Op.eqFields d xs ys fs).run Tryd.prog w else .ok false w := by
  cases b <;> simp [Op.eqFields, hn, hx, hy, he]
/-- Are two tables one? -/
def eqT (x y : Tb) : Bool := (x.lv == y.lv) && (x.ct == y.ct) && (x.root == y.root) && (x.first.toList == y.first.toList) && (x.last.toList == y.last.toList)
theorem eqT_iff (x y : Tb) : eqT x y = true ↔ x = y := by
  unfold eqT
  rw [eq_cmpS, eq_cmpS]
  simp only [Bool.and_eq_true, decide_eq_true_eq, beq_iff_eq]
  exact ⟨fun ⟨⟨⟨⟨a, b⟩, c⟩, d⟩, e⟩ => Tb.same a b c d e, fun h => by subst h; simp⟩
set_option maxRecDepth 100000 in
set_option maxHeartbeats 2000000 in
theorem equal51 (x y : Tb) (w : World) : (Op.equalIn 10000 51 (.agg (encT x).toArray) (.agg (encT y).toArray)).run Tryd.prog w = .ok (eqT x y) w := by
  have hf : (Tryd.prog.fieldsOf 51).toList = [⟨"Level", 3, 0, false, "", "", 0⟩, ⟨"Count", 3, 1, false, "", "", 8⟩, ⟨"Root", 32, 2, false, "", "", 16⟩, ⟨"First", 9, 34, false, "", "", 48⟩, ⟨"Last", 9, 35, false, "", "", 64⟩] := by kernel_rfl
  have p9 : ∀ (xs : Array Value) (o : Nat) (v : Value) (w : World), xs[o]? = some v → (part 9 xs o).run Tryd.prog w = .ok v w := by
    intro xs o v w h
    simp [part, Tryd.isAgg9, h]
  have p3 : ∀ (xs : Array Value) (o : Nat) (v : Value) (w : World), xs[o]? = some v → (part 3 xs o).run Tryd.prog w = .ok v w := by
    intro xs o v w h
    simp [part, Tryd.isAgg3, h]
  have pd : ∀ (x : Tb), (part 32 (encT x).toArray 2).run Tryd.prog w = .ok (.agg (cellsOf x.root).toArray) w := fun x => by
    have hz2 := encT_len x
    have hx2 : List.take 32 (List.drop 2 (encT x)) = cellsOf x.root := by
      show List.take 32 (cellsOf x.root ++ _) = _
      rw [show 32 = (cellsOf x.root).length by rw [cellsOf_length, x.hr], List.take_left]
    simp [part, Tryd.isAgg32, hx2, hz2]
  rw [run_equalIn_agg w 9999 51 _ _ fields51 stood51, hf]
  have r0 := fun x : Tb => p3 (encT x).toArray 0 (.int .i64 x.lv) w (by simpa using encT_0 x)
  have r1 := fun x : Tb => p3 (encT x).toArray 1 (.int .i64 x.ct) w (by simpa using encT_1 x)
  have r3 := fun x : Tb => p9 (encT x).toArray 34 (.string x.first) w (by simpa using encT_34 x)
  have r4 := fun x : Tb => p9 (encT x).toArray 35 (.string x.last) w (by simpa using encT_35 x)
  have f0 : (Op.equalIn 9999 3 (.int .i64 x.lv) (.int .i64 y.lv)).run Tryd.prog w = .ok (x.lv == y.lv) w := by rw [run_equalIn_int w 9998 3 .i64 .i64 _ _ Tryd.underlying3]
  have f1 : (Op.equalIn 9999 3 (.int .i64 x.ct) (.int .i64 y.ct)).run Tryd.prog w = .ok (x.ct == y.ct) w := by rw [run_equalIn_int w 9998 3 .i64 .i64 _ _ Tryd.underlying3]
  have f2 : (Op.equalIn 9999 32 (.agg (cellsOf x.root).toArray) (.agg (cellsOf y.root).toArray)).run Tryd.prog w = .ok (x.root == y.root) w :=
    run_equalIn_bytes (P := Tryd.prog) w 9997 32 5 32 Tryd.underlying32 Tryd.underlying5 Sm.sizeOf5 x.root y.root x.hr y.hr
  have f3 : (Op.equalIn 9999 9 (.string x.first) (.string y.first)).run Tryd.prog w = .ok (x.first.toList == y.first.toList) w := run_equalIn_string w 9998 9 _ _ Tryd.underlying9
  have f4 : (Op.equalIn 9999 9 (.string x.last) (.string y.last)).run Tryd.prog w = .ok (x.last.toList == y.last.toList) w := run_equalIn_string w 9998 9 _ _ Tryd.underlying9
  rw [eqF_step (by decide) (r0 x) (r0 y) f0, eqF_step (by decide) (r1 x) (r1 y) f1, eqF_step (by decide) (pd x) (pd y) f2, eqF_step (by decide) (r3 x) (r3 y) f3, eqF_step (by decide) (r4 x) (r4 y) f4]
  unfold eqT
  generalize (x.lv == y.lv) = a0
  generalize (x.ct == y.ct) = a1
  generalize (x.root == y.root) = a2
  generalize (x.first.toList == y.first.toList) = a3
  generalize (x.last.toList == y.last.toList) = a4
  cases a0 <;> cases a1 <;> cases a2 <;> cases a3 <;> cases a4 <;> simp [Op.eqFields]
noncomputable def sameTB (xs ys : List Tb) : Bool := @decide (xs = ys) (Classical.propDecidable _)
theorem sameTB_yes {xs ys : List Tb} (h : xs = ys) : sameTB xs ys = true := @decide_eq_true _ (Classical.propDecidable _) h
theorem sameTB_no {xs ys : List Tb} (h : ¬ xs = ys) : sameTB xs ys = false := @decide_eq_false _ (Classical.propDecidable _) h
theorem take_snocT (ts : List Tb) (i : Nat) (h : i < ts.length) : ts.take (i + 1) = ts.take i ++ [ts.getD i zT] := by
  rw [List.take_succ_eq_append_getElem h, getD_at ts i zT h]
set_option maxRecDepth 100000 in
set_option maxHeartbeats 4000000 in
theorem sameT_any (ao : Option Addr) (n c : Nat) (xs : List Tb) (bo : Option Addr) (m d : Nat) (ys : List Tb) (w : World) (hA : TabsV w ao n xs) (hB : TabsV w bo m ys) (hn : n ≤ 100000000000) (hm : m ≤ 100000000000) :
    Calls Tryd.prog 17 #[.slice ao n c, .slice bo m d] w fun e w' => e = .returned (.bool (sameTB xs ys)) ∧ Below w.heap.size w w' := by
  obtain ⟨r, HR⟩ : ∃ r, Hid (sameTB xs ys = r) := ⟨_, rfl⟩
  rw [HR.out]
  have HA : Hid _ := hA
  have HB : Hid _ := hB
  clear hA hB
  have hg := guard51
  by_cases hnm : n = m
  · subst hnm
    go_enter Tryd.func17, Tryd.ntmps17
    go_wp2
    go_loopw [5] (fun x wr => ∃ i : Nat, x = .int .i64 i ∧ i ≤ n ∧ Hid (xs.take i = ys.take i) ∧ Below w.heap.size w wr) (fun x _ => n - (intOf x).toNat)
    case atStart => exact ⟨0, rfl, by omega, rfl, Below.refl _ _⟩
    case round =>
      obtain ⟨i, rfl, hin, HS, hbel⟩ := hrel
      by_cases hlt : i < n
      · have hltz : (i : Int) < (n : Int) := by omega
        obtain ⟨b, off, hao, hEn⟩ := HA.out.2 (by omega)
        obtain ⟨b2, off2, hbo, hEn2⟩ := HB.out.2 (by omega)
        obtain ⟨x, HX⟩ : ∃ x, Hid (xs.getD i zT = x) := ⟨_, rfl⟩
        obtain ⟨y, HY⟩ : ∃ x, Hid (ys.getD i zT = x) := ⟨_, rfl⟩
        have HRR : Hid (wr.drew.rangeAt b (off + i * 36) (encT x) ∧ wr.drew.rangeAt b2 (off2 + i * 36) (encT y)) := ⟨tabs_range (hEn.below hbel (Nat.le_refl _)) i (by have := HA.out.1; omega) HX.out, tabs_range (hEn2.below hbel (Nat.le_refl _)) i (by have := HB.out.1; omega) HY.out⟩
        subst hao hbo
        have heq := fun w => equal51 x y w
        have HBE : Hid _ := hbel
        clear hEn hEn2 hbel
        have HSN : Hid (xs.take (i + 1) = xs.take i ++ [xs.getD i zT] ∧ ys.take (i + 1) = ys.take i ++ [ys.getD i zT]) := ⟨take_snocT xs i (by have := HA.out.1; omega), take_snocT ys i (by have := HB.out.1; omega)⟩
        by_cases he : x = y
        · have HE : Hid _ := he
          rw [(eqT_iff x y).2 he] at heq
          clear he
          go_upto_region 6 with fail
          refine wp_region_held_drew (S := fun W => W.rangeAt b (off + i * 36) (encT x) ∧ W.rangeAt b2 (off2 + i * 36) (encT y)) (by kernel_rfl) HRR.out (fun hS => ?_)
          refine wpAnyH_take (i := 0) (v := ?_) rfl (by kernel_rfl) (by kernel_rfl) (by kernel_rfl) (fun _ _ _ h => h) (Or.inl ⟨by rfl, ?_⟩) (by assumption) ?_
          rotate_left
          · (intro w hSw; (try dsimp only at hSw); go_simp; try with_reducible rfl)
          simp only [Act.put, List.getElem_toArray, List.getElem_cons_zero, List.setIfInBounds_toArray, List.set_cons_zero, List.set_cons_succ]
          refine wpAnyH_take (i := 1) (v := ?_) rfl (by kernel_rfl) (by kernel_rfl) (by kernel_rfl) (fun _ _ _ h => h) (Or.inl ⟨by rfl, ?_⟩) (by assumption) ?_
          rotate_left
          · (intro w hSw; (try dsimp only at hSw); go_simp; try with_reducible rfl)
          simp only [Act.put, List.getElem_toArray, List.getElem_cons_zero, List.getElem_cons_succ, List.setIfInBounds_toArray, List.set_cons_zero, List.set_cons_succ]
          refine wpAnyH_take (i := 2) (v := ?_) rfl (by kernel_rfl) (by kernel_rfl) (by kernel_rfl) (fun _ _ _ h => h) (Or.inl ⟨by rfl, ?_⟩) (by assumption) ?_
          rotate_left
          · (intro w hSw; (try dsimp only at hSw); go_simp; try with_reducible rfl)
          simp only [Act.put, List.getElem_toArray, List.getElem_cons_zero, List.getElem_cons_succ, List.setIfInBounds_toArray, List.set_cons_zero, List.set_cons_succ]
          refine wpAnyH_take (i := 3) (v := .agg (encT x).toArray) rfl (by kernel_rfl) (by kernel_rfl) (by kernel_rfl) (fun _ _ _ h => h) (yieldsIf_load_mid (by rfl) 51 (.tmp 19) rfl b (off + i * 36) rfl (encT x) _ (fun W h => h.1) Tryd.underlying51 rfl (sizeT x)) (by assumption) ?_
          simp only [Act.put, List.getElem_toArray, List.getElem_cons_zero, List.getElem_cons_succ, List.setIfInBounds_toArray, List.set_cons_zero, List.set_cons_succ]
          refine wpAnyH_take (i := 4) (v := ?_) rfl (by kernel_rfl) (by kernel_rfl) (by kernel_rfl) (fun _ _ _ h => h) (Or.inl ⟨by rfl, ?_⟩) (by assumption) ?_
          rotate_left
          · (intro w hSw; (try dsimp only at hSw); go_simp; try with_reducible rfl)
          simp only [Act.put, List.getElem_toArray, List.getElem_cons_zero, List.getElem_cons_succ, List.setIfInBounds_toArray, List.set_cons_zero, List.set_cons_succ]
          refine wpAnyH_take (i := 5) (v := ?_) rfl (by kernel_rfl) (by kernel_rfl) (by kernel_rfl) (fun _ _ _ h => h) (Or.inl ⟨by rfl, ?_⟩) (by assumption) ?_
          rotate_left
          · (intro w hSw; (try dsimp only at hSw); go_simp; try with_reducible rfl)
          simp only [Act.put, List.getElem_toArray, List.getElem_cons_zero, List.getElem_cons_succ, List.setIfInBounds_toArray, List.set_cons_zero, List.set_cons_succ]
          refine wpAnyH_take (i := 6) (v := ?_) rfl (by kernel_rfl) (by kernel_rfl) (by kernel_rfl) (fun _ _ _ h => h) (Or.inl ⟨by rfl, ?_⟩) (by assumption) ?_
          rotate_left
          · (intro w hSw; (try dsimp only at hSw); go_simp; try with_reducible rfl)
          simp only [Act.put, List.getElem_toArray, List.getElem_cons_zero, List.getElem_cons_succ, List.setIfInBounds_toArray, List.set_cons_zero, List.set_cons_succ]
          refine wpAnyH_take (i := 7) (v := .agg (encT y).toArray) rfl (by kernel_rfl) (by kernel_rfl) (by kernel_rfl) (fun _ _ _ h => h) (yieldsIf_load_mid (by rfl) 51 (.tmp 23) rfl b2 (off2 + i * 36) rfl (encT y) _ (fun W h => h.2) Tryd.underlying51 rfl (sizeT y)) (by assumption) ?_
          simp only [Act.put, List.getElem_toArray, List.getElem_cons_zero, List.getElem_cons_succ, List.setIfInBounds_toArray, List.set_cons_zero, List.set_cons_succ]
          refine wpAnyH_take (i := 8) (v := ?_) rfl (by kernel_rfl) (by kernel_rfl) (by kernel_rfl) (fun _ _ _ h => h) (Or.inl ⟨by rfl, ?_⟩) (by assumption) ?_
          rotate_left
          · (intro w hSw; (try dsimp only at hSw); go_simp; try with_reducible rfl)
          simp only [Act.put, List.getElem_toArray, List.getElem_cons_zero, List.getElem_cons_succ, List.setIfInBounds_toArray, List.set_cons_zero, List.set_cons_succ]
          refine wpAnyH_done (by kernel_rfl) ?_ _
          go_wp2
          go_roundw
          case rel => exact ⟨i + 1, by go_num, by omega, (by show _ = _; rw [HSN.out.1, HSN.out.2, HS.out, HX.out, HY.out, HE.out]), HBE.out.drew⟩
          case measure => simp [intOf]; omega
        · have hf : r = false := by
            rw [← HR.out]
            refine sameTB_no fun h => he ?_
            rw [← HX.out, ← HY.out, h]
          subst hf
          have hne : eqT x y = false := by
            cases h : eqT x y with
            | false => rfl
            | true => exact absurd ((eqT_iff x y).1 h) he
          rw [hne] at heq
          clear he hne
          go_upto_region 6 with fail
          refine wp_region_held_drew (S := fun W => W.rangeAt b (off + i * 36) (encT x) ∧ W.rangeAt b2 (off2 + i * 36) (encT y)) (by kernel_rfl) HRR.out (fun hS => ?_)
          refine wpAnyH_take (i := 0) (v := ?_) rfl (by kernel_rfl) (by kernel_rfl) (by kernel_rfl) (fun _ _ _ h => h) (Or.inl ⟨by rfl, ?_⟩) (by assumption) ?_
          rotate_left
          · (intro w hSw; (try dsimp only at hSw); go_simp; try with_reducible rfl)
          simp only [Act.put, List.getElem_toArray, List.getElem_cons_zero, List.setIfInBounds_toArray, List.set_cons_zero, List.set_cons_succ]
          refine wpAnyH_take (i := 1) (v := ?_) rfl (by kernel_rfl) (by kernel_rfl) (by kernel_rfl) (fun _ _ _ h => h) (Or.inl ⟨by rfl, ?_⟩) (by assumption) ?_
          rotate_left
          · (intro w hSw; (try dsimp only at hSw); go_simp; try with_reducible rfl)
          simp only [Act.put, List.getElem_toArray, List.getElem_cons_zero, List.getElem_cons_succ, List.setIfInBounds_toArray, List.set_cons_zero, List.set_cons_succ]
          refine wpAnyH_take (i := 2) (v := ?_) rfl (by kernel_rfl) (by kernel_rfl) (by kernel_rfl) (fun _ _ _ h => h) (Or.inl ⟨by rfl, ?_⟩) (by assumption) ?_
          rotate_left
          · (intro w hSw; (try dsimp only at hSw); go_simp; try with_reducible rfl)
          simp only [Act.put, List.getElem_toArray, List.getElem_cons_zero, List.getElem_cons_succ, List.setIfInBounds_toArray, List.set_cons_zero, List.set_cons_succ]
          refine wpAnyH_take (i := 3) (v := .agg (encT x).toArray) rfl (by kernel_rfl) (by kernel_rfl) (by kernel_rfl) (fun _ _ _ h => h) (yieldsIf_load_mid (by rfl) 51 (.tmp 19) rfl b (off + i * 36) rfl (encT x) _ (fun W h => h.1) Tryd.underlying51 rfl (sizeT x)) (by assumption) ?_
          simp only [Act.put, List.getElem_toArray, List.getElem_cons_zero, List.getElem_cons_succ, List.setIfInBounds_toArray, List.set_cons_zero, List.set_cons_succ]
          refine wpAnyH_take (i := 4) (v := ?_) rfl (by kernel_rfl) (by kernel_rfl) (by kernel_rfl) (fun _ _ _ h => h) (Or.inl ⟨by rfl, ?_⟩) (by assumption) ?_
          rotate_left
          · (intro w hSw; (try dsimp only at hSw); go_simp; try with_reducible rfl)
          simp only [Act.put, List.getElem_toArray, List.getElem_cons_zero, List.getElem_cons_succ, List.setIfInBounds_toArray, List.set_cons_zero, List.set_cons_succ]
          refine wpAnyH_take (i := 5) (v := ?_) rfl (by kernel_rfl) (by kernel_rfl) (by kernel_rfl) (fun _ _ _ h => h) (Or.inl ⟨by rfl, ?_⟩) (by assumption) ?_
          rotate_left
          · (intro w hSw; (try dsimp only at hSw); go_simp; try with_reducible rfl)
          simp only [Act.put, List.getElem_toArray, List.getElem_cons_zero, List.getElem_cons_succ, List.setIfInBounds_toArray, List.set_cons_zero, List.set_cons_succ]
          refine wpAnyH_take (i := 6) (v := ?_) rfl (by kernel_rfl) (by kernel_rfl) (by kernel_rfl) (fun _ _ _ h => h) (Or.inl ⟨by rfl, ?_⟩) (by assumption) ?_
          rotate_left
          · (intro w hSw; (try dsimp only at hSw); go_simp; try with_reducible rfl)
          simp only [Act.put, List.getElem_toArray, List.getElem_cons_zero, List.getElem_cons_succ, List.setIfInBounds_toArray, List.set_cons_zero, List.set_cons_succ]
          refine wpAnyH_take (i := 7) (v := .agg (encT y).toArray) rfl (by kernel_rfl) (by kernel_rfl) (by kernel_rfl) (fun _ _ _ h => h) (yieldsIf_load_mid (by rfl) 51 (.tmp 23) rfl b2 (off2 + i * 36) rfl (encT y) _ (fun W h => h.2) Tryd.underlying51 rfl (sizeT y)) (by assumption) ?_
          simp only [Act.put, List.getElem_toArray, List.getElem_cons_zero, List.getElem_cons_succ, List.setIfInBounds_toArray, List.set_cons_zero, List.set_cons_succ]
          refine wpAnyH_take (i := 8) (v := ?_) rfl (by kernel_rfl) (by kernel_rfl) (by kernel_rfl) (fun _ _ _ h => h) (Or.inl ⟨by rfl, ?_⟩) (by assumption) ?_
          rotate_left
          · (intro w hSw; (try dsimp only at hSw); go_simp; try with_reducible rfl)
          simp only [Act.put, List.getElem_toArray, List.getElem_cons_zero, List.getElem_cons_succ, List.setIfInBounds_toArray, List.set_cons_zero, List.set_cons_succ]
          refine wpAnyH_done (by kernel_rfl) ?_ _
          go_wp2
          go_ret
          exact ⟨rfl, HBE.out.drew⟩
      · have hltz : ¬ (i : Int) < (n : Int) := by omega
        have ht : r = true := by
          rw [← HR.out]
          refine sameTB_yes ?_
          have := HS.out
          rwa [List.take_of_length_le (by have := HA.out.1; omega), List.take_of_length_le (by have := HB.out.1; omega)] at this
        subst ht
        go_wp2
        go_ret
        exact ⟨rfl, hbel⟩
  · have hf : r = false := by
      rw [← HR.out]
      refine sameTB_no fun h => hnm ?_
      rw [← HA.out.1, ← HB.out.1, h]
    subst hf
    have hnz : ((n : Int) != (m : Int)) = true := by simp; omega
    go_enter Tryd.func17, Tryd.ntmps17
    go_wp2
    go_ret
    exact ⟨rfl, Below.refl _ _⟩
end Go.Proofs.YtiimmknnlciljaaDoor
