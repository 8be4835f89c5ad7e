/-
  What seek.Check answers: a contract over this translation. What is told is taken: paths and ranges against roots. No walk. What an opening and what there is have in common: plain mathematics of clashes. No walk.
-/
import Derived.Test.YtecacjddggljgaaDoorPartCF
namespace Go.Proofs.YtecacjddggljgaaDoor
open Go.RowKit Go.Sort Go.Shelf
set_option linter.unusedSectionVars false
variable [Inhabited E] [DecidableEq E]
def pointC (bt : Bool) (A B : Opn) : Array Value := #[.bool bt, .int .i64 A.at_, .slice A.lo A.ln A.lc, .slice A.po A.pn A.pc, .int .i64 B.at_, .slice B.lo B.ln B.lc, .slice B.po B.pn B.pc]
/-- What a point tells: nothing; that there is none; the entry. -/
def chkM (cv bt : Bool) (key : ByteArray) (ab : Bool) (em : Bool) : Option E → Option (Option E)
  | none => none
  | some a => if cv then (if bt then (if decide (cmpS a.key key < 0) && ab then some none else none) else (if decide (a.key = key) && em then some (some a) else none)) else none
def chkO (z : Int) (root : List UInt8) (n : Int) (k1 k2 key : ByteArray) (bt : Bool) (A B : Opn) : Option (Option E) := chkM (covB k1 k2 key) bt key (saB z root n key (A.at_ + 1) B) (emptyO B) (entryO z root n A)
def chkV : Option (Option E) → Value
  | none => .tuple #[.agg (encE zeroE).toArray, .bool false, .int .i64 8]
  | some none => .tuple #[.agg (encE zeroE).toArray, .bool false, .int .i64 0]
  | some (some e) => .tuple #[.agg (encE e).toArray, .bool true, .int .i64 0]
theorem entryO_at {z : Int} {root : List UInt8} {n : Int} {o : Opn} {e : E} (h : entryO z root n o = some e) : 0 ≤ o.at_ ∧ o.at_ < n := by
  unfold entryO at h
  split at h
  · rename_i hc
    unfold Sm.ckB at hc
    simp only [Bool.and_eq_true, decide_eq_true_eq] at hc
    exact ⟨hc.1.1, hc.1.2.1⟩
  · cases h
theorem load_midG {P : Program} {ops : Array Oper} {rest : List Oper} {op : Oper} {a : Act} {w : World} {Q : Exit → Act → World → Prop} (hw : Region.wanted op (yielded ops a.tmps) = true) (ty : TypeId) (x : Operand) (ho : op.op = .load ty x)
    (b o : Nat) (hx : a.eval x = .pointer (some ⟨b, o, none⟩)) (cs : List Value) (d : TypeDesc) (hc : w.rangeAt b o cs)
    (hu : P.underlying ty = some d) (hd : d.isRow = true) (hi : (P.info? ty).map (·.size) = some cs.length)
    (h : wpList P ops Q rest (a.put op.dst (.agg cs.toArray)) w) : wpList P ops Q (op :: rest) a w :=
  BigFrame.wpList_want hw fun _ hK => wp_load_mid ty x ho b o hx cs d hc hu hd hi (hK _ _ h)
theorem four_of {w : World} {g : Nat} {a b c d : Value} (h : w.heap[g]? = some (.cells #[a, b, c, d] 54 (0, 0))) : w.cell? ⟨g, 0, none⟩ = some a ∧ w.cell? ⟨g, 1, none⟩ = some b ∧ w.cell? ⟨g, 2, none⟩ = some c ∧ w.cell? ⟨g, 3, none⟩ = some d ∧ w.frozen? ⟨g, 0, none⟩ = false ∧ w.frozen? ⟨g, 1, none⟩ = false ∧ w.frozen? ⟨g, 2, none⟩ = false ∧ w.frozen? ⟨g, 3, none⟩ = false :=
  ⟨by rw [cell_of_row _ _ _ _ _ _ h]; rfl, by rw [cell_of_row _ _ _ _ _ _ h]; rfl, by rw [cell_of_row _ _ _ _ _ _ h]; rfl, by rw [cell_of_row _ _ _ _ _ _ h]; rfl, frozen_of_row w g 0 _ 54 h, frozen_of_row w g 1 _ 54 h, frozen_of_row w g 2 _ 54 h, frozen_of_row w g 3 _ 54 h⟩
set_option maxRecDepth 100000 in
set_option maxHeartbeats 3000000 in
theorem check12_any (z lv n : Int) (root : List UInt8) (k1 k2 key : ByteArray) (bt : Bool) (A B : Opn) (w : World) (hr : root.length = 32) (hn : n ≤ 9223372036854775807) (hA : OpnV w A) (hB : OpnV w B) (hK : Sm.WW w 1 Sm.ks) (hz0 : 1 < w.heap.size) (hz : -9223372036854775808 ≤ z ∧ z ≤ 9223372036854775807) :
    Calls Tryd.prog 23 #[.agg #[.int .i64 z], .agg (tabC lv n root k1 k2), .string key, .agg (pointC bt A B)] w fun e w' => e = .returned (chkV (chkO z root n k1 k2 key bt A B)) ∧ Below w.heap.size w w' := by
  obtain ⟨W4, HW4⟩ : ∃ W, Hid (W = (((w.alloc (.cells #[.int .i64 z] 26)).alloc (.cells (tabC lv n root k1 k2) 48)).alloc (.cells (pointC bt A B) 32)).alloc (.cells #[.string ⟨#[]⟩, .string ⟨#[]⟩, .bool false, .int .i64 0] 54)) := ⟨_, rfl⟩
  have HF4 : Hid _ := Sm.frame4 w (.cells #[.int .i64 z] 26) (.cells (tabC lv n root k1 k2) 48) (.cells (pointC bt A B) 32) _ _ W4 HW4.out
  have HBL : Hid (∀ V, Below (w.heap.size + 4) W4 V → V.heap[w.heap.size]? = some (.cells #[.int .i64 z] 26 (0, 0)) ∧ V.heap[w.heap.size + 1]? = some (.cells (tabC lv n root k1 k2) 48 (0, 0)) ∧ V.heap[w.heap.size + 2]? = some (.cells (pointC bt A B) 32 (0, 0)) ∧ V.heap[w.heap.size + 3]? = some (.cells #[.string ⟨#[]⟩, .string ⟨#[]⟩, .bool false, .int .i64 0] 54 (0, 0))) := fun V hV => by
    obtain ⟨h1, h2, h3, h4, -, h6⟩ := HF4.out
    exact ⟨(hV.block w.heap.size (by omega)).trans h1, (hV.block (w.heap.size + 1) (by omega)).trans h2, (hV.block (w.heap.size + 2) (by omega)).trans h3, (hV.block (w.heap.size + 3) (by omega)).trans h4⟩
  have HPT : Hid (∀ V, Below (w.heap.size + 4) W4 V → V.cell? ⟨w.heap.size + 2, 0, none⟩ = some (.bool bt) ∧ V.cell? ⟨w.heap.size + 2, 1, none⟩ = some (.int .i64 A.at_) ∧ V.rangeAt (w.heap.size + 2) 1 A.cells.toList ∧ V.rangeAt (w.heap.size + 2) 4 B.cells.toList) := fun V hV => by
    have h3 := (HBL.out V hV).2.2.1
    refine ⟨by rw [cell_of_row _ _ _ _ _ _ h3]; rfl, by rw [cell_of_row _ _ _ _ _ _ h3]; rfl, fun j v hj => ?_, fun j v hj => ?_⟩
    · rw [cell_of_row _ _ _ _ _ _ h3]
      have hj3 : j < 3 := (List.getElem?_eq_some_iff.1 hj).1
      match j, hj3, hj with
      | 0, _, hj => exact hj
      | 1, _, hj => exact hj
      | 2, _, hj => exact hj
    · rw [cell_of_row _ _ _ _ _ _ h3]
      have hj3 : j < 3 := (List.getElem?_eq_some_iff.1 hj).1
      match j, hj3, hj with
      | 0, _, hj => exact hj
      | 1, _, hj => exact hj
      | 2, _, hj => exact hj
  have HB4 : Hid (Below w.heap.size w W4 ∧ W4.heap.size = w.heap.size + 4) := ⟨HF4.out.2.2.2.2.1, HF4.out.2.2.2.2.2⟩
  have HSZ : Hid ((Tryd.prog.info? 48).map (·.size) = some (tabC lv n root k1 k2).size ∧ (Tryd.prog.info? 30).map (·.size) = some A.cells.toList.length ∧ (Tryd.prog.info? 30).map (·.size) = some B.cells.toList.length ∧ (Tryd.prog.info? 26).map (·.size) = some 1) := ⟨by rw [size48, tabC_size lv n hr], by rw [size30]; rfl, by rw [size30]; rfl, size26⟩
  have HKW : Hid (∀ V, Below w.heap.size w V → Sm.WW V 1 Sm.ks ∧ 1 < V.heap.size ∧ OpnV V A ∧ OpnV V B) := fun V hV => ⟨hK.below hV hz0, by have := hV.size; omega, hA.keep hV, hB.keep hV⟩
  have HEN : Hid (∀ V, Below w.heap.size w V → Calls Tryd.prog 50 #[.agg #[.int .i64 z], .agg (tabC lv n root k1 k2), .agg A.cells] V fun e w' => e = .returned (soleV (entryO z root n A)) ∧ Below V.heap.size V w') := fun V hV => entryOf_any z lv n root k1 k2 A V hr hn (HKW.out V hV).2.2.1 (HKW.out V hV).1 (HKW.out V hV).2.1 hz
  have HAB : Hid (∀ V, Below w.heap.size w V → Calls Tryd.prog 51 #[.agg #[.int .i64 z], .agg (tabC lv n root k1 k2), .string key, .int .i64 (A.at_ + 1), .agg B.cells] V fun e w' => e = .returned (.bool (saB z root n key (A.at_ + 1) B)) ∧ Below V.heap.size V w') := fun V hV => above_any z lv n (A.at_ + 1) root k1 k2 key B V hr hn (HKW.out V hV).2.2.2 (HKW.out V hV).1 (HKW.out V hV).2.1 hz
  have HEM : Hid (∀ V, Calls Tryd.prog 52 #[.agg B.cells] V fun e w' => e = .returned (.bool (emptyO B)) ∧ Below V.heap.size V w') := fun V => empty_any B V
  have HCV : Hid (∀ V, Calls Tryd.prog 18 #[.agg (tabC lv n root k1 k2), .string key] V fun e w' => e = .returned (.bool (covB k1 k2 key)) ∧ Below V.heap.size V w') := fun V => covers_any _ k1 k2 key V (tabC_at lv n hr k1 k2).2.2.1 (tabC_at lv n hr k1 k2).2.2.2
  have HRA : Hid (∀ e, entryO z root n A = some e → wrap64 (A.at_ + 1) = A.at_ + 1) := fun e he => by have := entryO_at he; unfold wrap64; omega
  obtain ⟨cv, HC1⟩ : ∃ b, Hid (covB k1 k2 key = b) := ⟨_, rfl⟩
  obtain ⟨ab, HC2⟩ : ∃ b, Hid (saB z root n key (A.at_ + 1) B = b) := ⟨_, rfl⟩
  obtain ⟨em, HC3⟩ : ∃ b, Hid (emptyO B = b) := ⟨_, rfl⟩
  obtain ⟨en, HC4⟩ : ∃ b, Hid (entryO z root n A = b) := ⟨_, rfl⟩
  obtain ⟨R, HR⟩ : ∃ r, Hid (chkO z root n k1 k2 key bt A B = r) := ⟨_, rfl⟩
  have HRR : Hid (R = chkM cv bt key ab em en) := by show _ = _; rw [← HR.out, ← HC1.out, ← HC2.out, ← HC3.out, ← HC4.out]; rfl
  rw [HC1.out] at HCV
  rw [HC2.out] at HAB
  rw [HC3.out] at HEM
  rw [HC4.out] at HEN HRA
  rw [HR.out]
  clear hA hB hK hz0 hz HR HC1 HC2 HC3 HC4 HKW
  go_enter Tryd.func23, Tryd.ntmps23
  go_upto_region 1 with fail
  rw [← HW4.out]
  simp only [show w.heap.size + 1 + 1 + 1 = w.heap.size + 3 from rfl, show w.heap.size + 1 + 1 = w.heap.size + 2 from rfl]
  have HD : Hid _ := HBL.out W4 (Below.refl _ _)
  go_wp2_with (refine wpList_load_row rfl 48 (.tmp 5) rfl (w.heap.size + 1) rfl 48 (tabC lv n root k1 k2) (0, 0) _ HD.out.2.1 Tryd.underlying48 rfl HSZ.out.1 ?_)
  refine (HCV.out W4).mono ?_
  rintro e w5 ⟨rfl, hb5⟩
  have HB5 : Hid (Below (w.heap.size + 4) W4 w5 ∧ Below w.heap.size w w5) := ⟨by have h := hb5; rw [HB4.out.2] at h; exact h, HB4.out.1.trans (hb5.mono HB4.out.1.size)⟩
  have HGE : Hid (w.heap.size + 4 ≤ w5.heap.size) := by show _ ≤ _; have := hb5.size; have := HB4.out.2; omega
  clear hb5 HD HCV
  cases cv with
  | false =>
    have HD5 : Hid _ := (HBL.out w5 HB5.out.1).2.2.2
    obtain ⟨b0, b1, b2, b3, f0, f1, f2, f3⟩ := four_of HD5.out
    have hR : R = none := by rw [HRR.out]; cases en <;> rfl
    subst hR
    go_wp2
    (try simp only [Exit.inBlock, Exit.then])
    refine bodyPost_ret (results_entry3 rfl _ _ (w.heap.size + 3) 54 _ _ rfl (heap_four _ _ _ _ _ _ _ _ _ _ _ HD5.out) (by exact size23)) rfl ?_
    exact ⟨rfl, bel_four HB5.out.2 (by omega) _ _ _ _⟩
  | true =>
    have HE5 := HEN.out w5 HB5.out.2
    obtain ⟨h1, h2, h3, -⟩ := HBL.out w5 HB5.out.1
    obtain ⟨-, -, hp1, -⟩ := HPT.out w5 HB5.out.1
    have HL : Hid _ := And.intro h1 (And.intro h2 hp1)
    have HEC : Hid _ := HE5
    clear h1 h2 h3 hp1 HE5
    go_upto_region 3 with fail
    go_wp2_with (first | (refine wpList_load_row rfl 26 (.tmp 4) rfl w.heap.size rfl 26 #[.int .i64 z] (0, 0) _ HL.out.1 Tryd.underlying26 rfl HSZ.out.2.2.2 ?_) | (refine wpList_load_row rfl 48 (.tmp 5) rfl (w.heap.size + 1) rfl 48 (tabC lv n root k1 k2) (0, 0) _ HL.out.2.1 Tryd.underlying48 rfl HSZ.out.1 ?_) | (refine wpList_load_mid rfl 30 (.tmp 21) rfl (w.heap.size + 2) 1 rfl A.cells.toList _ HL.out.2.2 Tryd.underlying30 rfl HSZ.out.2.1 ?_))
    refine Calls.mono HEC.out ?_
    rintro e w6 ⟨rfl, hb6⟩
    have HB6 : Hid (Below (w.heap.size + 4) W4 w6 ∧ Below w.heap.size w w6 ∧ w.heap.size + 4 ≤ w6.heap.size) := ⟨HB5.out.1.trans (hb6.mono HGE.out), HB5.out.2.trans (hb6.mono HB5.out.2.size), by have := hb6.size; have := HGE.out; omega⟩
    clear hb6 HEC HL HEN
    cases en with
    | none =>
      have hR : R = none := HRR.out
      subst hR
      simp only [soleV, encE]
      go_upto_region 4 with fail
      have HB9 : Hid (Below (w.heap.size + 4) W4 (w6.alloc (.cells #[.string zeroE.key, .string zeroE.value, .bool zeroE.del, .int .i64 zeroE.seq] 54)) ∧ Below w.heap.size w (w6.alloc (.cells #[.string zeroE.key, .string zeroE.value, .bool zeroE.del, .int .i64 zeroE.seq] 54))) := ⟨HB6.out.1.alloc HB6.out.2.2 _, HB6.out.2.1.alloc HB6.out.2.1.size _⟩
      generalize w6.alloc (.cells #[.string zeroE.key, .string zeroE.value, .bool zeroE.del, .int .i64 zeroE.seq] 54) = w7 at *
      have HD9 : Hid _ := (HBL.out w7 HB9.out.1).2.2.2
      obtain ⟨b0, b1, b2, b3, f0, f1, f2, f3⟩ := four_of HD9.out
      go_wp2
      (try simp only [Exit.inBlock, Exit.then])
      refine bodyPost_ret (results_entry3 rfl _ _ (w.heap.size + 3) 54 _ _ rfl (heap_four _ _ _ _ _ _ _ _ _ _ _ HD9.out) (by exact size23)) rfl ?_
      exact ⟨rfl, bel_four HB9.out.2 (by omega) _ _ _ _⟩
    | some x =>
      obtain ⟨k, v, d, q⟩ := x
      have hwr : wrap64 (A.at_ + 1) = A.at_ + 1 := HRA.out _ rfl
      simp only [soleV, encE]
      go_upto_region 4 with fail
      have HB7 : Hid (Below (w.heap.size + 4) W4 (w6.alloc (.cells #[.string k, .string v, .bool d, .int .i64 q] 54)) ∧ Below w.heap.size w (w6.alloc (.cells #[.string k, .string v, .bool d, .int .i64 q] 54)) ∧ (w6.alloc (.cells #[.string k, .string v, .bool d, .int .i64 q] 54)).heap[w6.heap.size]? = some (.cells #[.string k, .string v, .bool d, .int .i64 q] 54 (0, 0)) ∧ w.heap.size + 4 ≤ (w6.alloc (.cells #[.string k, .string v, .bool d, .int .i64 q] 54)).heap.size) := ⟨HB6.out.1.alloc HB6.out.2.2 _, HB6.out.2.1.alloc HB6.out.2.1.size _, heap_alloc_new w6 _, by have := HB6.out.2.2; simp; omega⟩
      generalize w6.alloc (.cells #[.string k, .string v, .bool d, .int .i64 q] 54) = w7 at *
      obtain ⟨g, HG⟩ : ∃ g, Hid (w6.heap.size = g) := ⟨_, rfl⟩
      rw [HG.out] at HB7
      rw [HG.out]
      have gk : w7.cell? ⟨g, 0, none⟩ = some (.string k) := by rw [cell_of_row _ _ _ _ _ _ HB7.out.2.2.1]; rfl
      obtain ⟨p0, p1, -, -⟩ := HPT.out w7 HB7.out.1
      have HB9 : Hid (Below (w.heap.size + 4) W4 w7 ∧ Below w.heap.size w w7) := ⟨HB7.out.1, HB7.out.2.1⟩
      have hl := less_cmpS k key
      cases bt with
      | true =>
        cases hb : Op.bytesLess k.toList key.toList with
        | false =>
          rw [hb] at hl
          have hR : R = none := by rw [HRR.out]; show chkM true true key ab em (some ⟨k, v, d, q⟩) = none; unfold chkM; simp only [← hl]; rfl
          subst hR
          clear hl hwr
          have HD9 : Hid _ := (HBL.out w7 HB9.out.1).2.2.2
          obtain ⟨b0, b1, b2, b3, f0, f1, f2, f3⟩ := four_of HD9.out
          go_wp2
          (try simp only [Exit.inBlock, Exit.then])
          refine bodyPost_ret (results_entry3 rfl _ _ (w.heap.size + 3) 54 _ _ rfl (heap_four _ _ _ _ _ _ _ _ _ _ _ HD9.out) (by exact size23)) rfl ?_
          exact ⟨rfl, bel_four HB9.out.2 (by omega) _ _ _ _⟩
        | true =>
          rw [hb] at hl
          have HRB : Hid (R = if ab then some none else none) := by show _ = _; rw [HRR.out]; show chkM true true key ab em (some ⟨k, v, d, q⟩) = _; unfold chkM; simp only [← hl]; cases ab <;> rfl
          obtain ⟨h1, h2, h3, -⟩ := HBL.out w7 HB7.out.1
          have HL : Hid _ := And.intro h1 (And.intro h2 (HPT.out w7 HB7.out.1).2.2.2)
          have HEC : Hid _ := HAB.out w7 HB7.out.2.1
          clear hl h1 h2 h3
          go_upto_region 6 with fail
          go_wp2_with (first | (refine Sm.wpList_load_rowG (by rfl) 26 (.tmp 4) rfl w.heap.size rfl 26 #[.int .i64 z] (0, 0) _ HL.out.1 Tryd.underlying26 rfl HSZ.out.2.2.2 ?_) | (refine Sm.wpList_load_rowG (by rfl) 48 (.tmp 5) rfl (w.heap.size + 1) rfl 48 (tabC lv n root k1 k2) (0, 0) _ HL.out.2.1 Tryd.underlying48 rfl HSZ.out.1 ?_) | (refine load_midG (by rfl) 30 (.tmp 47) rfl (w.heap.size + 2) 4 rfl B.cells.toList _ HL.out.2.2 Tryd.underlying30 rfl HSZ.out.2.2.1 ?_))
          refine Calls.mono HEC.out ?_
          rintro e w8 ⟨rfl, hb8⟩
          have HB8 : Hid (Below (w.heap.size + 4) W4 w8 ∧ Below w.heap.size w w8) := ⟨HB7.out.1.trans (hb8.mono HB7.out.2.2.2), HB7.out.2.1.trans (hb8.mono HB7.out.2.1.size)⟩
          obtain ⟨q0, q1, -, -⟩ := HPT.out w8 HB8.out.1
          have HB9b : Hid _ := HB8.out
          clear hb8 HEC HL p0 p1 gk HB9
          have HB9 : Hid (Below (w.heap.size + 4) W4 w8 ∧ Below w.heap.size w w8) := HB8.out
          cases ab with
          | false =>
            have hR : R = none := HRB.out
            subst hR
            clear HB9b
            have HD9 : Hid _ := (HBL.out w8 HB9.out.1).2.2.2
            obtain ⟨b0, b1, b2, b3, f0, f1, f2, f3⟩ := four_of HD9.out
            go_wp2
            (try simp only [Exit.inBlock, Exit.then])
            refine bodyPost_ret (results_entry3 rfl _ _ (w.heap.size + 3) 54 _ _ rfl (heap_four _ _ _ _ _ _ _ _ _ _ _ HD9.out) (by exact size23)) rfl ?_
            exact ⟨rfl, bel_four HB9.out.2 (by omega) _ _ _ _⟩
          | true =>
            have hR : R = some none := HRB.out
            subst hR
            clear HB9b
            have HD9 : Hid _ := (HBL.out w8 HB9.out.1).2.2.2
            obtain ⟨b0, b1, b2, b3, f0, f1, f2, f3⟩ := four_of HD9.out
            go_wp2
            (try simp only [Exit.inBlock, Exit.then])
            refine bodyPost_ret (results_entry3 rfl _ _ (w.heap.size + 3) 54 _ _ rfl (heap_four _ _ _ _ _ _ _ _ _ _ _ HD9.out) (by exact size23)) rfl ?_
            exact ⟨rfl, bel_four HB9.out.2 (by omega) _ _ _ _⟩
      | false =>
        have hq := eq_cmpS k key
        cases hb : (k.toList == key.toList) with
        | false =>
          rw [hb] at hq
          have hR : R = none := by rw [HRR.out]; show chkM true false key ab em (some ⟨k, v, d, q⟩) = none; unfold chkM; simp only [← hq]; rfl
          subst hR
          clear hq hwr hl
          have HD9 : Hid _ := (HBL.out w7 HB9.out.1).2.2.2
          obtain ⟨b0, b1, b2, b3, f0, f1, f2, f3⟩ := four_of HD9.out
          go_wp2
          (try simp only [Exit.inBlock, Exit.then])
          refine bodyPost_ret (results_entry3 rfl _ _ (w.heap.size + 3) 54 _ _ rfl (heap_four _ _ _ _ _ _ _ _ _ _ _ HD9.out) (by exact size23)) rfl ?_
          exact ⟨rfl, bel_four HB9.out.2 (by omega) _ _ _ _⟩
        | true =>
          rw [hb] at hq
          have HRB : Hid (R = if em then some (some ⟨k, v, d, q⟩) else none) := by show _ = _; rw [HRR.out]; show chkM true false key ab em (some ⟨k, v, d, q⟩) = _; unfold chkM; simp only [← hq]; cases em <;> rfl
          have HL : Hid _ := (HPT.out w7 HB7.out.1).2.2.2
          have HEC : Hid _ := HEM.out w7
          clear hq hl hwr
          go_upto_region 8 with fail
          go_wp2_with (refine load_midG (by rfl) 30 (.tmp 63) rfl (w.heap.size + 2) 4 rfl B.cells.toList _ HL.out Tryd.underlying30 rfl HSZ.out.2.2.1 ?_)
          refine Calls.mono HEC.out ?_
          rintro e w8 ⟨rfl, hb8⟩
          have HB8 : Hid (Below (w.heap.size + 4) W4 w8 ∧ Below w.heap.size w w8) := ⟨HB7.out.1.trans (hb8.mono HB7.out.2.2.2), HB7.out.2.1.trans (hb8.mono HB7.out.2.1.size)⟩
          have HG8 : Hid (w8.heap[g]? = some (.cells #[.string k, .string v, .bool d, .int .i64 q] 54 (0, 0))) := (hb8.block g (Array.getElem?_eq_some_iff.1 HB7.out.2.2.1).1).trans HB7.out.2.2.1
          clear hb8 HEC HL p0 p1 gk HB9
          have HB9 : Hid (Below (w.heap.size + 4) W4 w8 ∧ Below w.heap.size w w8) := HB8.out
          cases em with
          | false =>
            have hR : R = none := HRB.out
            subst hR
            have HD9 : Hid _ := (HBL.out w8 HB9.out.1).2.2.2
            obtain ⟨b0, b1, b2, b3, f0, f1, f2, f3⟩ := four_of HD9.out
            go_wp2
            (try simp only [Exit.inBlock, Exit.then])
            refine bodyPost_ret (results_entry3 rfl _ _ (w.heap.size + 3) 54 _ _ rfl (heap_four _ _ _ _ _ _ _ _ _ _ _ HD9.out) (by exact size23)) rfl ?_
            exact ⟨rfl, bel_four HB9.out.2 (by omega) _ _ _ _⟩
          | true =>
            have hR : R = some (some ⟨k, v, d, q⟩) := HRB.out
            subst hR
            obtain ⟨g0, g1, g2, g3, -⟩ := four_of HG8.out
            have HD9 : Hid _ := (HBL.out w8 HB9.out.1).2.2.2
            obtain ⟨b0, b1, b2, b3, f0, f1, f2, f3⟩ := four_of HD9.out
            go_wp2
            (try simp only [Exit.inBlock, Exit.then])
            refine bodyPost_ret (results_entry3 rfl _ _ (w.heap.size + 3) 54 _ _ rfl (heap_four _ _ _ _ _ _ _ _ _ _ _ HD9.out) (by exact size23)) rfl ?_
            exact ⟨rfl, bel_four HB9.out.2 (by omega) _ _ _ _⟩
end Go.Proofs.YtecacjddggljgaaDoor
namespace Go.Proofs.YtecacjddggljgaaDoor.Sm
open Go.RowKit
theorem partL_len (ls : List LV) (a b : Nat) (hb : b ≤ ls.length) : (partL ls a b).length = b - a := by
  unfold partL; rw [List.length_take, List.length_drop]; omega
theorem partL_take (ls : List LV) (a b h : Nat) (hh : h ≤ b - a) : (partL ls a b).take h = partL ls a (a + h) := by
  unfold partL; rw [List.take_take, Nat.min_eq_left hh, show a + h - a = h by omega]
theorem partL_drop (ls : List LV) (a b h : Nat) : (partL ls a b).drop h = partL ls (a + h) b := by
  unfold partL; rw [List.drop_take, List.drop_drop, show b - a - h = b - (a + h) by omega]
theorem partL_part (ls : List LV) (c d a b : Nat) (h1 : c ≤ a) (h2 : b ≤ d) : partL (partL ls c d) (a - c) (b - c) = partL ls a b := by
  unfold partL
  rw [List.drop_take, List.take_take, List.drop_drop, show c + (a - c) = a by omega, show min (b - c - (a - c)) (d - c - (a - c)) = b - a by omega]
theorem partL_all (ls : List LV) : partL ls 0 ls.length = ls := by unfold partL; simp
theorem bytesL_take (ls : List LV) (k : Nat) : bytesL (ls.take k) = (bytesL ls).take k := by unfold bytesL; rw [List.map_take]
theorem bytesL_drop (ls : List LV) (k : Nat) : bytesL (ls.drop k) = (bytesL ls).drop k := by unfold bytesL; rw [List.map_drop]
theorem bytesL_len (ls : List LV) : (bytesL ls).length = ls.length := by unfold bytesL; rw [List.length_map]
theorem root_part (z : Int) (ls : List LV) (a b : Nat) (h2 : 2 ≤ b - a) (hb : b ≤ ls.length) (h3 : ls.length ≤ 1000) :
    rootD z (bytesL (partL ls a b)) = nodeD z (rootD z (bytesL (partL ls a (a + halfN (b - a))))) (rootD z (bytesL (partL ls (a + halfN (b - a)) b))) := by
  obtain ⟨s1, s2, -⟩ := halfN_spec (b - a) h2 (by omega)
  have hl : (bytesL (partL ls a b)).length = b - a := by rw [bytesL_len, partL_len ls a b hb]
  rw [rootD_two z _ (by omega) (by omega), hl, ← bytesL_take, ← bytesL_drop, partL_take _ _ _ _ (by omega), partL_drop]
theorem partL_one (ls : List LV) (a : Nat) (p : LV) (hp : ls[a]? = some p) : partL ls a (a + 1) = [p] := by
  unfold partL
  rw [show a + 1 - a = 1 by omega]
  have hl := (List.getElem?_eq_some_iff.1 hp)
  obtain ⟨h1, h2⟩ := hl
  rw [List.drop_eq_getElem_cons h1, h2]
  rfl
theorem climb_app (z : Int) (u : List UInt8) (l1 l2 : List St) (d1 d2 : List (List UInt8)) (h : l1.length = d1.length) : climbD z u (l1 ++ l2) (d1 ++ d2) = climbD z (climbD z u l1 d1) l2 d2 := by
  unfold climbD
  rw [List.zip_append h, List.foldl_append]
/-- Check takes Path. -/
theorem climb_dn (z : Int) (ls : List LV) (i : Nat) (p : LV) (hp : ls[i]? = some p) (h3 : ls.length ≤ 1000) : ∀ (k a b : Nat), b - a ≤ k → a ≤ i → i < b → b ≤ ls.length →
    climbD z (leafD z p.bs) (dnL a b i).reverse (besideD z ls (spanS (dnL a b i).reverse)) = rootD z (bytesL (partL ls a b)) := by
  intro k
  induction k with
  | zero => intro a b h1 h2 h3; omega
  | succ k ih =>
    intro a b hk ha hb hbl
    by_cases h1 : b - a ≤ 1
    · rw [dnL_one i h1]
      have e : b = a + 1 := by omega
      have e2 : a = i := by omega
      subst e2
      rw [e, partL_one ls a p hp]
      rw [show climbD z (leafD z p.bs) ([] : List St).reverse (besideD z ls (spanS ([] : List St).reverse)) = leafD z p.bs from by simp [climbD], show bytesL [p] = [p.bs] from rfl, rootD_one]
    · obtain ⟨s1, s2, -⟩ := halfN_spec (b - a) (by omega) (by omega)
      rw [root_part z ls a b (by omega) hbl h3, dnL_two i (by omega) (by omega)]
      split
      · rename_i h2
        have h := ih a (a + halfN (b - a)) (by omega) ha h2 (by omega)
        rw [List.reverse_cons, show besideD z ls (spanS ((dnL a (a + halfN (b - a)) i).reverse ++ [⟨a + halfN (b - a), b, false⟩])) = besideD z ls (spanS (dnL a (a + halfN (b - a)) i).reverse) ++ [rootD z (bytesL (partL ls (a + halfN (b - a)) b))] from by simp [besideD, spanS], climb_app _ _ _ _ _ _ (by simp [besideD, spanS]), h]
        simp [climbD, joinS]
      · rename_i h2
        have h := ih (a + halfN (b - a)) b (by omega) (by omega) hb hbl
        rw [List.reverse_cons, show besideD z ls (spanS ((dnL (a + halfN (b - a)) b i).reverse ++ [⟨a, a + halfN (b - a), true⟩])) = besideD z ls (spanS (dnL (a + halfN (b - a)) b i).reverse) ++ [rootD z (bytesL (partL ls a (a + halfN (b - a))))] from by simp [besideD, spanS], climb_app _ _ _ _ _ _ (by simp [besideD, spanS]), h]
        simp [climbD, joinS]
theorem climb_path (z : Int) (ls : List LV) (i : Nat) (p : LV) (hp : ls[i]? = some p) (h3 : ls.length ≤ 1000) : climbD z (leafD z p.bs) (upL ls.length i) (besideD z ls (spanS (upL ls.length i))) = rootD z (bytesL ls) := by
  have h := climb_dn z ls i p hp h3 ls.length 0 ls.length (by omega) (Nat.zero_le _) (List.getElem?_eq_some_iff.1 hp).1 (Nat.le_refl _)
  rw [partL_all] at h
  exact h
/-- CheckRange takes Range. -/
theorem fill_out (z : Int) (ls : List LV) (c d : Nat) (hcd : c < d) (hd : d ≤ ls.length) (h3 : ls.length ≤ 1000) : ∀ (k a b : Nat) (rest : List (List UInt8)), b - a ≤ 2 ^ k → a < b → b ≤ ls.length →
    fillF z (partL ls c d) c d (k + 1) a b (besideD z ls (outL a b c d) ++ rest) = rootD z (bytesL (partL ls a b)) := by
  intro k
  induction k with
  | zero =>
    intro a b rest hk hab hbl
    rw [fillF]
    by_cases h1 : b ≤ c ∨ d ≤ a
    · rw [if_pos h1, outL_apart h1]; rfl
    · rw [if_neg h1, if_pos (out_one (by omega) hab hcd h1), partL_part _ _ _ _ _ (out_one (by omega) hab hcd h1).1 (out_one (by omega) hab hcd h1).2]
  | succ k ih =>
    intro a b rest hk hab hbl
    rw [fillF]
    by_cases h1 : b ≤ c ∨ d ≤ a
    · rw [if_pos h1, outL_apart h1]; rfl
    · by_cases h2 : c ≤ a ∧ b ≤ d
      · rw [if_neg h1, if_pos h2, partL_part _ _ _ _ _ h2.1 h2.2]
      · obtain ⟨h4, he⟩ := outL_two hcd hab (by omega) h1 h2
        obtain ⟨s1, s2, -⟩ := halfN_spec (b - a) h4 (by omega)
        obtain ⟨l1, l2⟩ := halfN_le (b - a) k h4 (by omega) hk
        have e1 : besideD z ls (outL a b c d) ++ rest = besideD z ls (outL a (a + halfN (b - a)) c d) ++ (besideD z ls (outL (a + halfN (b - a)) b c d) ++ rest) := by
          rw [he]; simp [besideD]
        rw [if_neg h1, if_neg h2, e1, ih a (a + halfN (b - a)) _ (by omega) (by omega) (by omega), List.drop_left' (by simp [besideD]), ih (a + halfN (b - a)) b _ (by omega) (by omega) hbl]
        exact (root_part z ls a b h4 hbl h3).symm
theorem fill_range (z : Int) (ls : List LV) (c d : Nat) (hcd : c < d) (hd : d ≤ ls.length) (h3 : ls.length ≤ 1000) : fillF z (partL ls c d) c d 64 0 ls.length (besideD z ls (outL 0 ls.length c d)) = rootD z (bytesL ls) := by
  have hp := pow63
  have h := fill_out z ls c d hcd hd h3 63 0 ls.length [] (by omega) (by omega) (Nat.le_refl _)
  rw [List.append_nil, partL_all] at h
  exact h
/-- What stands beside one leaf. -/
theorem out_dn (i : Nat) : ∀ (k a b : Nat), b - a ≤ k → a ≤ i → i < b → b ≤ 9223372036854775807 → (outL a b i (i + 1)).Perm (spanS (dnL a b i)) := by
  intro k
  induction k with
  | zero => intro a b h1 h2 h3; omega
  | succ k ih =>
    intro a b hk ha hb hbb
    by_cases h1 : b - a ≤ 1
    · rw [dnL_one i h1, outL_within (by omega) (by omega)]; exact List.Perm.refl _
    · obtain ⟨h4, he⟩ := outL_two (c := i) (d := i + 1) (by omega) (show a < b by omega) hbb (by omega) (by omega)
      obtain ⟨s1, s2, -⟩ := halfN_spec (b - a) h4 (by omega)
      rw [he, dnL_two i (by omega) hbb]
      split
      · rename_i h2
        rw [outL_apart (a := a + halfN (b - a)) (b := b) (c := i) (d := i + 1) (by omega)]
        have h := ih a (a + halfN (b - a)) (by omega) ha h2 (by omega)
        exact (List.perm_append_singleton _ _).trans (h.cons _)
      · rename_i h2
        rw [outL_apart (a := a) (b := a + halfN (b - a)) (c := i) (d := i + 1) (by omega)]
        have h := ih (a + halfN (b - a)) b (by omega) (by omega) hb hbb
        exact h.cons _
theorem out_up {n i : Nat} (hi : i < n) (hn : n ≤ 9223372036854775807) : (outL 0 n i (i + 1)).Perm (spanS (upL n i)) := by
  refine (out_dn i n 0 n (by omega) (Nat.zero_le _) hi hn).trans ?_
  unfold upL spanS
  rw [List.map_reverse]
  exact (List.reverse_perm _).symm
theorem dn_short (i : Nat) : ∀ (k a b : Nat), b - a ≤ 2 ^ k → b ≤ 9223372036854775807 → (dnL a b i).length ≤ k := by
  intro k
  induction k with
  | zero => intro a b h1 _; rw [dnL_one i (by simpa using h1)]; simp
  | succ k ih =>
    intro a b hk hb
    by_cases h1 : b - a ≤ 1
    · rw [dnL_one i h1]; simp
    · obtain ⟨s1, s2, -⟩ := halfN_spec (b - a) (by omega) (by omega)
      obtain ⟨l1, l2⟩ := halfN_le (b - a) k (by omega) (by omega) hk
      rw [dnL_two i (by omega) hb]
      split
      · have := ih a (a + halfN (b - a)) (by omega) (by omega); rw [List.length_cons]; omega
      · have := ih (a + halfN (b - a)) b (by omega) hb; rw [List.length_cons]; omega
theorem up_short {n i k : Nat} (hn : n ≤ 9223372036854775807) (hk : n ≤ 2 ^ k) : (upL n i).length ≤ k := by
  unfold upL; rw [List.length_reverse]; exact dn_short i k 0 n (by omega) hn
end Go.Proofs.YtecacjddggljgaaDoor.Sm
namespace Go.Proofs.YtecacjddggljgaaDoor.Sm
open Go.RowKit
/-- A leaf or node of two trees of one shape: the opened text and the real one, the opened sum and the real one, and what is below. -/
def PT : Nat → Type
  | 0 => Unit
  | k + 1 => Option ((List UInt8 × List UInt8 × List UInt8 × List UInt8) × PT k × PT k)
def PT.nil : {k : Nat} → PT k
  | 0 => ()
  | _ + 1 => none
def PT.mk {k : Nat} (ot rt od rd : List UInt8) (l r : PT k) : PT (k + 1) := some ((ot, rt, od, rd), l, r)
theorem PT.two {k : Nat} (T : PT (k + 1)) : T = PT.nil ∨ ∃ ot rt od rd l r, T = PT.mk ot rt od rd l r := by
  cases (T : Option ((List UInt8 × List UInt8 × List UInt8 × List UInt8) × PT k × PT k)) with
  | none => exact .inl rfl
  | some p => exact .inr ⟨p.1.1, p.1.2.1, p.1.2.2.1, p.1.2.2.2, p.2.1, p.2.2, rfl⟩
def PT.od : {k : Nat} → PT k → List UInt8
  | 0, _ => []
  | k + 1, T => match (T : Option ((List UInt8 × List UInt8 × List UInt8 × List UInt8) × PT k × PT k)) with | none => [] | some p => p.1.2.2.1
def PT.rd : {k : Nat} → PT k → List UInt8
  | 0, _ => []
  | k + 1, T => match (T : Option ((List UInt8 × List UInt8 × List UInt8 × List UInt8) × PT k × PT k)) with | none => [] | some p => p.1.2.2.2
theorem PT.od_mk {k : Nat} (a b c d : List UInt8) (l r : PT k) : (PT.mk a b c d l r).od = c := rfl
theorem PT.rd_mk {k : Nat} (a b c d : List UInt8) (l r : PT k) : (PT.mk a b c d l r).rd = d := rfl
/-- The first two texts from the top down that are not the same. -/
def unl : {k : Nat} → PT k → Option (List UInt8 × List UInt8)
  | 0, _ => none
  | k + 1, T => match (T : Option ((List UInt8 × List UInt8 × List UInt8 × List UInt8) × PT k × PT k)) with
    | none => none
    | some p => if p.1.1 = p.1.2.1 then (match unl p.2.1 with | none => unl p.2.2 | some q => some q) else some (p.1.1, p.1.2.1)
theorem unl_nil {k : Nat} : unl (PT.nil : PT k) = none := by cases k <;> rfl
theorem unl_mk {k : Nat} (ot rt od rd : List UInt8) (l r : PT k) : unl (PT.mk ot rt od rd l r) = if ot = rt then (match unl l with | none => unl r | some p => some p) else some (ot, rt) := rfl
def bsAt (l : List LV) (i : Nat) : List UInt8 := (bytesL l).getD i []
theorem bsAt_some {l : List LV} {i : Nat} {p : LV} (h : l[i]? = some p) : bsAt l i = p.bs := by
  unfold bsAt bytesL
  rw [List.getD_eq_getElem?_getD, List.getElem?_map, h]
  rfl
/-- The pairs of an opening of the leaves from c to d - 1, over the leaves from a to b - 1. -/
def openT (z : Int) (real part : List LV) (c d : Nat) : (f : Nat) → Nat → Nat → List (List UInt8) → PT f
  | 0, _, _, _ => .nil
  | f + 1, a, b, ds => if b ≤ c ∨ d ≤ a then .mk [] [] (ds.headD []) (rootD z (bytesL (partL real a b))) .nil .nil
    else if b - a ≤ 1 then .mk (0 :: bsAt part (a - c)) (0 :: bsAt real a) (leafD z (bsAt part (a - c))) (leafD z (bsAt real a)) .nil .nil
    else .mk (1 :: ((openT z real part c d f a (a + halfN (b - a)) ds).od ++ (openT z real part c d f (a + halfN (b - a)) b (ds.drop (outL a (a + halfN (b - a)) c d).length)).od))
      (1 :: ((openT z real part c d f a (a + halfN (b - a)) ds).rd ++ (openT z real part c d f (a + halfN (b - a)) b (ds.drop (outL a (a + halfN (b - a)) c d).length)).rd))
      (nodeD z (openT z real part c d f a (a + halfN (b - a)) ds).od (openT z real part c d f (a + halfN (b - a)) b (ds.drop (outL a (a + halfN (b - a)) c d).length)).od)
      (nodeD z (openT z real part c d f a (a + halfN (b - a)) ds).rd (openT z real part c d f (a + halfN (b - a)) b (ds.drop (outL a (a + halfN (b - a)) c d).length)).rd)
      (openT z real part c d f a (a + halfN (b - a)) ds) (openT z real part c d f (a + halfN (b - a)) b (ds.drop (outL a (a + halfN (b - a)) c d).length))
theorem openT_apart (z : Int) (real part : List LV) (c d f a b : Nat) (ds : List (List UInt8)) (h : b ≤ c ∨ d ≤ a) : openT z real part c d (f + 1) a b ds = .mk [] [] (ds.headD []) (rootD z (bytesL (partL real a b))) .nil .nil := by
  rw [openT, if_pos h]
theorem openT_leaf (z : Int) (real part : List LV) (c d f a b : Nat) (ds : List (List UInt8)) (h : ¬ (b ≤ c ∨ d ≤ a)) (h1 : b - a ≤ 1) : openT z real part c d (f + 1) a b ds = .mk (0 :: bsAt part (a - c)) (0 :: bsAt real a) (leafD z (bsAt part (a - c))) (leafD z (bsAt real a)) .nil .nil := by
  rw [openT, if_neg h, if_pos h1]
theorem openT_node (z : Int) (real part : List LV) (c d f a b m : Nat) (ds : List (List UInt8)) (h : ¬ (b ≤ c ∨ d ≤ a)) (h1 : ¬ b - a ≤ 1) (hm : a + halfN (b - a) = m) (L R : PT f) (hL : openT z real part c d f a m ds = L) (hR : openT z real part c d f m b (ds.drop (outL a m c d).length) = R) :
    openT z real part c d (f + 1) a b ds = .mk (1 :: (L.od ++ R.od)) (1 :: (L.rd ++ R.rd)) (nodeD z L.od R.od) (nodeD z L.rd R.rd) L R := by
  subst hm
  rw [openT, if_neg h, if_neg h1, hL, hR]
/-- Where it is not apart, the parts of both halves. -/
theorem outL_both {a b c d : Nat} (hcd : c < d) (hb : b ≤ 9223372036854775807) (h1 : ¬ (b ≤ c ∨ d ≤ a)) (h2 : ¬ b - a ≤ 1) : outL a b c d = outL a (a + halfN (b - a)) c d ++ outL (a + halfN (b - a)) b c d := by
  obtain ⟨s1, s2, -⟩ := halfN_spec (b - a) (by omega) (by omega)
  by_cases h3 : c ≤ a ∧ b ≤ d
  · rw [outL_within h1 h3, outL_within (by omega) (by omega), outL_within (by omega) (by omega)]; rfl
  · exact (outL_two hcd (by omega) hb h1 h3).2
theorem rootD_at (z : Int) (l : List LV) (a b : Nat) (hab : b - a ≤ 1) (h : a < b) (hb : b ≤ l.length) : rootD z (bytesL (partL l a b)) = leafD z (bsAt l a) := by
  obtain ⟨p, hp⟩ : ∃ p, l[a]? = some p := ⟨_, List.getElem?_eq_getElem (by omega)⟩
  rw [show b = a + 1 by omega, partL_one l a p hp, bsAt_some hp, show bytesL [p] = [p.bs] from rfl, rootD_one]
theorem openT_rd (z : Int) (real part : List LV) (c d : Nat) (h3 : real.length ≤ 1000) : ∀ (k a b : Nat) (ds : List (List UInt8)), b - a ≤ 2 ^ k → a < b → b ≤ real.length → (openT z real part c d (k + 1) a b ds).rd = rootD z (bytesL (partL real a b)) := by
  intro k
  induction k with
  | zero =>
    intro a b ds hk hab hb
    by_cases h1 : b ≤ c ∨ d ≤ a
    · rw [openT_apart _ _ _ _ _ _ _ _ _ h1, PT.rd_mk]
    · have hk1 : b - a ≤ 1 := by simpa using hk
      rw [openT_leaf _ _ _ _ _ _ _ _ _ h1 hk1, rootD_at z real a b hk1 hab hb, PT.rd_mk]
  | succ k ih =>
    intro a b ds hk hab hb
    by_cases h1 : b ≤ c ∨ d ≤ a
    · rw [openT_apart _ _ _ _ _ _ _ _ _ h1, PT.rd_mk]
    · by_cases h2 : b - a ≤ 1
      · rw [openT_leaf _ _ _ _ _ _ _ _ _ h1 h2, rootD_at z real a b h2 hab hb, PT.rd_mk]
      · obtain ⟨s1, s2, -⟩ := halfN_spec (b - a) (by omega) (by omega)
        obtain ⟨l1, l2⟩ := halfN_le (b - a) k (by omega) (by omega) hk
        rw [openT_node _ _ _ _ _ _ _ _ _ _ h1 h2 rfl _ _ rfl rfl, root_part z real a b (by omega) hb h3, PT.rd_mk, ih a (a + halfN (b - a)) ds (by omega) (by omega) (by omega), ih (a + halfN (b - a)) b _ (by omega) (by omega) hb]
theorem openT_od (z : Int) (real part : List LV) (c d : Nat) (hcd : c < d) (hd : d - c ≤ part.length) (h3 : part.length ≤ 1000) : ∀ (k a b : Nat) (ds : List (List UInt8)), b - a ≤ 2 ^ k → a < b → b ≤ 9223372036854775807 → (openT z real part c d (k + 1) a b ds).od = fillF z part c d (k + 1) a b ds := by
  intro k
  induction k with
  | zero =>
    intro a b ds hk hab hb
    by_cases h1 : b ≤ c ∨ d ≤ a
    · rw [openT_apart _ _ _ _ _ _ _ _ _ h1, fillF, if_pos h1, PT.od_mk]
    · have hk1 : b - a ≤ 1 := by simpa using hk
      have h2 := out_one hk1 hab hcd h1
      rw [openT_leaf _ _ _ _ _ _ _ _ _ h1 hk1, fillF, if_neg h1, if_pos h2, rootD_at z part (a - c) (b - c) (by omega) (by omega) (by omega), PT.od_mk]
  | succ k ih =>
    intro a b ds hk hab hb
    by_cases h1 : b ≤ c ∨ d ≤ a
    · rw [openT_apart _ _ _ _ _ _ _ _ _ h1, fillF, if_pos h1, PT.od_mk]
    · by_cases h2 : b - a ≤ 1
      · have h4 := out_one h2 hab hcd h1
        rw [openT_leaf _ _ _ _ _ _ _ _ _ h1 h2, fillF, if_neg h1, if_pos h4, rootD_at z part (a - c) (b - c) (by omega) (by omega) (by omega), PT.od_mk]
      · obtain ⟨s1, s2, -⟩ := halfN_spec (b - a) (by omega) (by omega)
        obtain ⟨l1, l2⟩ := halfN_le (b - a) k (by omega) (by omega) hk
        rw [openT_node _ _ _ _ _ _ _ _ _ _ h1 h2 rfl _ _ rfl rfl, fillF, if_neg h1, PT.od_mk, ih a (a + halfN (b - a)) ds (by omega) (by omega) (by omega), ih (a + halfN (b - a)) b _ (by omega) (by omega) hb]
        by_cases h4 : c ≤ a ∧ b ≤ d
        · have e : b - c - (a - c) = b - a := by omega
          have e2 : a - c + halfN (b - a) = a + halfN (b - a) - c := by omega
          rw [if_pos h4, root_part z part (a - c) (b - c) (by omega) (by omega) h3, e, e2, fillF, if_neg (by omega), if_pos (by omega), fillF, if_neg (by omega), if_pos (by omega)]
        · rw [if_neg h4]
theorem openT_len (z : Int) (real part : List LV) (c d : Nat) (k a b : Nat) (ds : List (List UInt8)) (hds : ∀ e ∈ ds, e.length = 32) (hl : (outL a b c d).length ≤ ds.length) : (openT z real part c d (k + 1) a b ds).od.length = 32 ∧ (openT z real part c d (k + 1) a b ds).rd.length = 32 := by
  by_cases h1 : b ≤ c ∨ d ≤ a
  · rw [openT_apart _ _ _ _ _ _ _ _ _ h1, PT.od_mk, PT.rd_mk]
    rw [outL_apart h1] at hl
    cases ds with
    | nil => simp at hl
    | cons e t => exact ⟨hds e (by simp), rootD_length _ _⟩
  · by_cases h2 : b - a ≤ 1
    · rw [openT_leaf _ _ _ _ _ _ _ _ _ h1 h2, PT.od_mk, PT.rd_mk]; exact ⟨leafD_length _ _, leafD_length _ _⟩
    · rw [openT_node _ _ _ _ _ _ _ _ _ _ h1 h2 rfl _ _ rfl rfl, PT.od_mk, PT.rd_mk]; exact ⟨nodeD_length _ _ _, nodeD_length _ _ _⟩
theorem unl_leaf {k : Nat} (x y d1 d2 : List UInt8) : unl (PT.mk x y d1 d2 (.nil : PT k) .nil) = if x = y then none else some (x, y) := by
  rw [unl_mk, unl_nil]
theorem app32 {a b c d : List UInt8} (h : a ++ b = c ++ d) (h1 : a.length = 32) (h2 : c.length = 32) : a = c ∧ b = d := List.append_inj h (by rw [h1, h2])
/-- Whoever opens what is not there shows two unlike texts with one sum; whoever shows nothing opens what is there. -/
theorem unl_sound (z : Int) (real part : List LV) (c d : Nat) (hcd : c < d) : ∀ (k a b : Nat) (ds : List (List UInt8)), b - a ≤ 2 ^ k → a < b → b ≤ 9223372036854775807 → (∀ e ∈ ds, e.length = 32) → (outL a b c d).length ≤ ds.length →
    (openT z real part c d (k + 1) a b ds).od = (openT z real part c d (k + 1) a b ds).rd →
      (∀ x y, unl (openT z real part c d (k + 1) a b ds) = some (x, y) → x ≠ y ∧ keptZ z x = keptZ z y) ∧
      (unl (openT z real part c d (k + 1) a b ds) = none → (∀ i, a ≤ i → i < b → c ≤ i → i < d → bsAt part (i - c) = bsAt real i) ∧ ds.take (outL a b c d).length = besideD z real (outL a b c d)) := by
  intro k
  induction k with
  | zero =>
    intro a b ds hk hab hb hds hl he
    by_cases h1 : b ≤ c ∨ d ≤ a
    · rw [openT_apart _ _ _ _ _ _ _ _ _ h1] at he ⊢
      rw [PT.od_mk, PT.rd_mk] at he
      rw [outL_apart h1] at hl ⊢
      rw [unl_leaf, if_pos rfl]
      refine ⟨fun x y h => (by cases h), fun _ => ⟨fun i h2 h3 h4 h5 => absurd h1 (by omega), ?_⟩⟩
      cases ds with
      | nil => simp at hl
      | cons e t =>
        rw [List.headD_cons] at he
        rw [he]; simp [besideD]
    · have hk1 : b - a ≤ 1 := by simpa using hk
      have h2 := out_one hk1 hab hcd h1
      rw [openT_leaf _ _ _ _ _ _ _ _ _ h1 hk1] at he ⊢
      rw [PT.od_mk, PT.rd_mk] at he
      rw [outL_within h1 h2, unl_leaf]
      refine ⟨fun x y h => ?_, fun h => ⟨fun i h3 h4 h5 h6 => ?_, rfl⟩⟩
      · split at h
        · cases h
        · rename_i hne; cases h; exact ⟨hne, he⟩
      · split at h
        · rename_i heq
          rw [show i = a by omega]
          exact (List.cons.inj heq).2
        · cases h
  | succ k ih =>
    intro a b ds hk hab hb hds hl he
    by_cases h1 : b ≤ c ∨ d ≤ a
    · rw [openT_apart _ _ _ _ _ _ _ _ _ h1] at he ⊢
      rw [PT.od_mk, PT.rd_mk] at he
      rw [outL_apart h1] at hl ⊢
      rw [unl_leaf, if_pos rfl]
      refine ⟨fun x y h => (by cases h), fun _ => ⟨fun i h2 h3 h4 h5 => absurd h1 (by omega), ?_⟩⟩
      cases ds with
      | nil => simp at hl
      | cons e t =>
        rw [List.headD_cons] at he
        rw [he]; simp [besideD]
    · by_cases hk1 : b - a ≤ 1
      · have h2 := out_one hk1 hab hcd h1
        rw [openT_leaf _ _ _ _ _ _ _ _ _ h1 hk1] at he ⊢
        rw [PT.od_mk, PT.rd_mk] at he
        rw [outL_within h1 h2, unl_leaf]
        refine ⟨fun x y h => ?_, fun h => ⟨fun i h3 h4 h5 h6 => ?_, rfl⟩⟩
        · split at h
          · cases h
          · rename_i hne; cases h; exact ⟨hne, he⟩
        · split at h
          · rename_i heq
            rw [show i = a by omega]
            exact (List.cons.inj heq).2
          · cases h
      · obtain ⟨s1, s2, -⟩ := halfN_spec (b - a) (by omega) (by omega)
        obtain ⟨l1, l2⟩ := halfN_le (b - a) k (by omega) (by omega) hk
        rw [outL_both hcd hb h1 hk1] at hl ⊢
        obtain ⟨m, hm⟩ : ∃ m, a + halfN (b - a) = m := ⟨_, rfl⟩
        rw [hm, List.length_append] at hl ⊢
        have hdr : ∀ e ∈ ds.drop (outL a m c d).length, e.length = 32 := fun e h => hds e (List.mem_of_mem_drop h)
        have hlr : (outL m b c d).length ≤ (ds.drop (outL a m c d).length).length := by rw [List.length_drop]; omega
        have iL := ih a m ds (by omega) (by omega) (by omega) hds (by omega)
        have iR := ih m b (ds.drop (outL a m c d).length) (by omega) (by omega) hb hdr hlr
        have nL := openT_len z real part c d k a m ds hds (by omega)
        have nR := openT_len z real part c d k m b _ hdr hlr
        obtain ⟨L, hL⟩ : ∃ T, openT z real part c d (k + 1) a m ds = T := ⟨_, rfl⟩
        obtain ⟨R, hR⟩ : ∃ T, openT z real part c d (k + 1) m b (ds.drop (outL a m c d).length) = T := ⟨_, rfl⟩
        rw [openT_node _ _ _ _ _ _ _ _ _ _ h1 hk1 hm _ _ hL hR] at he ⊢
        rw [PT.od_mk, PT.rd_mk] at he
        rw [hL] at iL nL
        rw [hR] at iR nR
        rw [unl_mk]
        have both : (1 :: (L.od ++ R.od) : List UInt8) = 1 :: (L.rd ++ R.rd) → L.od = L.rd ∧ R.od = R.rd := fun h => app32 (List.cons.inj h).2 nL.1 nL.2
        split
        · rename_i heq
          obtain ⟨e1, e2⟩ := both heq
          obtain ⟨a1, a2⟩ := iL e1
          obtain ⟨b1, b2⟩ := iR e2
          refine ⟨fun x y h => ?_, fun h => ?_⟩
          · split at h
            · exact b1 x y h
            · rename_i p hp; cases h; exact a1 x y hp
          · split at h
            · rename_i hn
              obtain ⟨c1, c2⟩ := a2 hn
              obtain ⟨d1, d2⟩ := b2 h
              refine ⟨fun i h3 h4 h5 h6 => ?_, ?_⟩
              · by_cases h7 : i < m
                · exact c1 i h3 h7 h5 h6
                · exact d1 i (by omega) h4 h5 h6
              · rw [List.take_add, c2, d2]; simp [besideD]
            · cases h
        · rename_i hne
          refine ⟨fun x y h => ?_, fun h => by cases h⟩
          cases h
          exact ⟨hne, he⟩
/-- Of what is there nothing is shown. -/
theorem unl_real (z : Int) (real part : List LV) (c d : Nat) (hcd : c < d) (h3 : real.length ≤ 1000) : ∀ (k a b : Nat) (ds : List (List UInt8)), b - a ≤ 2 ^ k → a < b → b ≤ real.length → (∀ i, a ≤ i → i < b → c ≤ i → i < d → bsAt part (i - c) = bsAt real i) → ds.take (outL a b c d).length = besideD z real (outL a b c d) →
    (openT z real part c d (k + 1) a b ds).od = (openT z real part c d (k + 1) a b ds).rd ∧ unl (openT z real part c d (k + 1) a b ds) = none := by
  intro k
  induction k with
  | zero =>
    intro a b ds hk hab hb hp hd
    by_cases h1 : b ≤ c ∨ d ≤ a
    · rw [openT_apart _ _ _ _ _ _ _ _ _ h1, unl_leaf, if_pos rfl, PT.od_mk, PT.rd_mk]
      rw [outL_apart h1] at hd
      cases ds with
      | nil => simp [besideD] at hd
      | cons e t => rw [List.headD_cons]; exact ⟨by simpa [besideD] using hd, rfl⟩
    · have hk1 : b - a ≤ 1 := by simpa using hk
      have h2 := out_one hk1 hab hcd h1
      rw [openT_leaf _ _ _ _ _ _ _ _ _ h1 hk1, unl_leaf, hp a (by omega) hab h2.1 (by omega), if_pos rfl, PT.od_mk, PT.rd_mk]
      exact ⟨rfl, rfl⟩
  | succ k ih =>
    intro a b ds hk hab hb hp hd
    by_cases h1 : b ≤ c ∨ d ≤ a
    · rw [openT_apart _ _ _ _ _ _ _ _ _ h1, unl_leaf, if_pos rfl, PT.od_mk, PT.rd_mk]
      rw [outL_apart h1] at hd
      cases ds with
      | nil => simp [besideD] at hd
      | cons e t => rw [List.headD_cons]; exact ⟨by simpa [besideD] using hd, rfl⟩
    · by_cases hk1 : b - a ≤ 1
      · have h2 := out_one hk1 hab hcd h1
        rw [openT_leaf _ _ _ _ _ _ _ _ _ h1 hk1, unl_leaf, hp a (by omega) hab h2.1 (by omega), if_pos rfl, PT.od_mk, PT.rd_mk]
        exact ⟨rfl, rfl⟩
      · obtain ⟨s1, s2, -⟩ := halfN_spec (b - a) (by omega) (by omega)
        obtain ⟨l1, l2⟩ := halfN_le (b - a) k (by omega) (by omega) hk
        rw [outL_both hcd (by omega) h1 hk1] at hd
        obtain ⟨m, hm⟩ : ∃ m, a + halfN (b - a) = m := ⟨_, rfl⟩
        rw [hm, List.length_append, List.take_add, show besideD z real (outL a m c d ++ outL m b c d) = besideD z real (outL a m c d) ++ besideD z real (outL m b c d) by simp [besideD]] at hd
        have hl : (ds.take (outL a m c d).length).length = (besideD z real (outL a m c d)).length := by
          have h5 := congrArg List.length hd
          simp only [List.length_append, List.length_take, List.length_drop, besideD, List.length_map] at h5 ⊢
          omega
        obtain ⟨e1, e2⟩ := List.append_inj hd hl
        obtain ⟨a1, a2⟩ := ih a m ds (by omega) (by omega) (by omega) (fun i p q r s => hp i p (by omega) r s) e1
        obtain ⟨b1, b2⟩ := ih m b (ds.drop (outL a m c d).length) (by omega) (by omega) hb (fun i p q r s => hp i (by omega) q r s) e2
        rw [openT_node _ _ _ _ _ _ _ _ _ _ h1 hk1 hm _ _ rfl rfl, unl_mk, PT.od_mk, PT.rd_mk, a1, b1, if_pos rfl, a2]
        exact ⟨rfl, b2⟩
/-- The clash that an opening of some leaves shows. -/
def ofR (z : Int) (real part : List LV) (x : Int) (ds : List (List UInt8)) : Option (List UInt8 × List UInt8) :=
  if crB z (rootD z (bytesL real)) real.length x part ds = true then unl (openT z real part x.toNat (x.toNat + part.length) 64 0 real.length ds) else none
end Go.Proofs.YtecacjddggljgaaDoor.Sm
