/-
  What tree.whole and, by one name, Leaf, Node and Root answer: contracts over this translation.
-/
import Derived.Test.YtaebpnednhkfhaaDoorRoot
namespace Go.Proofs.YtaebpnednhkfhaaDoor
open Go.RowKit
/-- A method of the tree with all bits, as a value. -/
def mv (f : FuncId) : Value := .func (.func f) #[.agg #[.int .i64 256]] #[]
def wholeV : Array Value := #[mv 29, mv 26, mv 23, mv 33, mv 40, mv 35, mv 43]
theorem whole_one : wholeV.all (·.oneCell') = true := by
  have h : ∀ u ∈ [mv 29, mv 26, mv 23, mv 33, mv 40, mv 35, mv 43], u.oneCell' = true := by intro u hu; simp only [List.mem_cons, List.not_mem_nil, or_false] at hu; rcases hu with rfl | rfl | rfl | rfl | rfl | rfl | rfl <;> rfl
  exact all_oneCell_toArray h
theorem size84 : (Tryd.prog.info? 84).map (·.size) = some 7 := by kernel_rfl
set_option maxRecDepth 100000 in
set_option maxHeartbeats 1000000 in
theorem whole_any (w : World) : Calls Tryd.prog 62 #[] w fun e w' => e = .returned (.agg wholeV) ∧ Below w.heap.size w w' := by
  have hmf : ∀ (fn : Fn) (first cap : Array Value) (w : World), (Instr.makeFunc fn first cap).run Tryd.prog w = .ok (.func fn first cap) w := fun _ _ _ _ => rfl
  go_enter Tryd.func62, Tryd.ntmps62
  have HF : Hid _ := frame2 w (Obj.cells #[.nilFunc, .nilFunc, .nilFunc, .nilFunc, .nilFunc, .nilFunc, .nilFunc] 84) #[Value.int IntKind.i64 256] 30
  go_wp2_with (refine wpList_store_row rfl 84 (.tmp 0) (.tmp 17) rfl w.heap.size wholeV rfl rfl 84 #[.nilFunc, .nilFunc, .nilFunc, .nilFunc, .nilFunc, .nilFunc, .nilFunc] HF.out.1 (by rw [size84]; rfl) rfl whole_one ?_)
  go_wp2_with fail
  refine bodyPost_ret (results_cell_row rfl _ _ w.heap.size 84 wholeV (0, 0) _ rfl (setRow_heap _ _ _ _ _ _ HF.out.1) Tryd.underlying84 rfl (by rw [size84]; rfl)) rfl ?_
  exact ⟨rfl, below_row HF.out.2.2.1 (Nat.le_refl _) _⟩
theorem field70_0 (w : World) : (Instr.field 84 (.agg wholeV) 0).run Tryd.prog w = .ok (.func (.func 29) #[.agg #[.int .i64 256]] #[]) w := by kernel_rfl
theorem field70_1 (w : World) : (Instr.field 84 (.agg wholeV) 1).run Tryd.prog w = .ok (.func (.func 26) #[.agg #[.int .i64 256]] #[]) w := by kernel_rfl
theorem field70_2 (w : World) : (Instr.field 84 (.agg wholeV) 2).run Tryd.prog w = .ok (.func (.func 23) #[.agg #[.int .i64 256]] #[]) w := by kernel_rfl
theorem field70_3 (w : World) : (Instr.field 84 (.agg wholeV) 3).run Tryd.prog w = .ok (.func (.func 33) #[.agg #[.int .i64 256]] #[]) w := by kernel_rfl
theorem field70_4 (w : World) : (Instr.field 84 (.agg wholeV) 4).run Tryd.prog w = .ok (.func (.func 40) #[.agg #[.int .i64 256]] #[]) w := by kernel_rfl
theorem field70_5 (w : World) : (Instr.field 84 (.agg wholeV) 5).run Tryd.prog w = .ok (.func (.func 35) #[.agg #[.int .i64 256]] #[]) w := by kernel_rfl
theorem field70_6 (w : World) : (Instr.field 84 (.agg wholeV) 6).run Tryd.prog w = .ok (.func (.func 43) #[.agg #[.int .i64 256]] #[]) w := by kernel_rfl
theorem z256 : (-9223372036854775808 : Int) ≤ 256 ∧ (256 : Int) ≤ 9223372036854775807 := ⟨by decide, by decide⟩
set_option maxRecDepth 100000 in
set_option maxHeartbeats 1000000 in
theorem leafN_any (ao : Option Addr) (n c : Nat) (bs : List UInt8) (w : World) (hb : Bytes w ao n bs) (h0 : ao = none → c = 0) (hn : n ≤ 140737488355000) (hK : WW w 0 ks) (hz0 : 0 < w.heap.size) :
    Calls Tryd.prog 31 #[.slice ao n c] w fun e w' => e = .returned (dv (leafD 256 bs)) ∧ Below w.heap.size w w' := by
  have HC : Hid (∀ W, Below w.heap.size w W → Calls Tryd.prog 29 #[.agg #[.int .i64 256], .slice ao n c] W fun e w' => e = .returned (dv (leafD 256 bs)) ∧ Below W.heap.size W w') := fun W hW => leaf_any 256 ao n c bs W (bytes_kept hb hW (Nat.le_refl _)) h0 hn (hK.below hW hz0) (Nat.lt_of_lt_of_le hz0 hW.size) z256
  have hdl := leafD_length 256 bs
  obtain ⟨d, HD⟩ : ∃ d, Hid (leafD 256 bs = d) := ⟨_, rfl⟩
  rw [HD.out] at hdl HC ⊢
  have HDL : Hid (d.length = 32) := hdl
  clear hb h0 hn hK hz0 hdl
  go_enter Tryd.func31, Tryd.ntmps31
  go_upto_region 1 with fail
  obtain ⟨W0, HW0⟩ : ∃ W, Hid (w.alloc (Obj.cells #[Value.int IntKind.u8 0, Value.int IntKind.u8 0, Value.int IntKind.u8 0, Value.int IntKind.u8 0, Value.int IntKind.u8 0, Value.int IntKind.u8 0, Value.int IntKind.u8 0, Value.int IntKind.u8 0, Value.int IntKind.u8 0, Value.int IntKind.u8 0, Value.int IntKind.u8 0, Value.int IntKind.u8 0, Value.int IntKind.u8 0, Value.int IntKind.u8 0, Value.int IntKind.u8 0, Value.int IntKind.u8 0, Value.int IntKind.u8 0, Value.int IntKind.u8 0, Value.int IntKind.u8 0, Value.int IntKind.u8 0, Value.int IntKind.u8 0, Value.int IntKind.u8 0, Value.int IntKind.u8 0, Value.int IntKind.u8 0, Value.int IntKind.u8 0, Value.int IntKind.u8 0, Value.int IntKind.u8 0, Value.int IntKind.u8 0, Value.int IntKind.u8 0, Value.int IntKind.u8 0, Value.int IntKind.u8 0, Value.int IntKind.u8 0] 24) = W) := ⟨_, rfl⟩
  have HR0 : Hid (W0.heap[w.heap.size]? = some (.cells #[Value.int IntKind.u8 0, Value.int IntKind.u8 0, Value.int IntKind.u8 0, Value.int IntKind.u8 0, Value.int IntKind.u8 0, Value.int IntKind.u8 0, Value.int IntKind.u8 0, Value.int IntKind.u8 0, Value.int IntKind.u8 0, Value.int IntKind.u8 0, Value.int IntKind.u8 0, Value.int IntKind.u8 0, Value.int IntKind.u8 0, Value.int IntKind.u8 0, Value.int IntKind.u8 0, Value.int IntKind.u8 0, Value.int IntKind.u8 0, Value.int IntKind.u8 0, Value.int IntKind.u8 0, Value.int IntKind.u8 0, Value.int IntKind.u8 0, Value.int IntKind.u8 0, Value.int IntKind.u8 0, Value.int IntKind.u8 0, Value.int IntKind.u8 0, Value.int IntKind.u8 0, Value.int IntKind.u8 0, Value.int IntKind.u8 0, Value.int IntKind.u8 0, Value.int IntKind.u8 0, Value.int IntKind.u8 0, Value.int IntKind.u8 0] 24 (0, 0))) := by show _ = _; rw [← HW0.out]; exact heap_alloc_new w _
  have HB0 : Hid (Below w.heap.size w W0) := by show Below _ _ _; rw [← HW0.out]; exact bel_alloc w _
  have HS0 : Hid (w.heap.size < W0.heap.size) := (Array.getElem?_eq_some_iff.1 HR0.out).1
  rw [HW0.out]
  clear HW0
  go_wp2_with fail
  refine (whole_any _).mono ?_
  rintro e w1 ⟨rfl, hb1⟩
  have HB1 : Hid (Below W0.heap.size W0 w1) := hb1
  clear hb1
  have hfd := field70_0
  go_wp2_with fail
  refine (HC.out _ (HB0.out.trans (HB1.out.mono HB0.out.size))).mono ?_
  rintro e w2 ⟨rfl, hb2⟩
  have HB2 : Hid (Below W0.heap.size W0 w2) := HB1.out.trans (hb2.mono HB1.out.size)
  have HR2 : Hid (w2.heap[w.heap.size]? = some (.cells #[Value.int IntKind.u8 0, Value.int IntKind.u8 0, Value.int IntKind.u8 0, Value.int IntKind.u8 0, Value.int IntKind.u8 0, Value.int IntKind.u8 0, Value.int IntKind.u8 0, Value.int IntKind.u8 0, Value.int IntKind.u8 0, Value.int IntKind.u8 0, Value.int IntKind.u8 0, Value.int IntKind.u8 0, Value.int IntKind.u8 0, Value.int IntKind.u8 0, Value.int IntKind.u8 0, Value.int IntKind.u8 0, Value.int IntKind.u8 0, Value.int IntKind.u8 0, Value.int IntKind.u8 0, Value.int IntKind.u8 0, Value.int IntKind.u8 0, Value.int IntKind.u8 0, Value.int IntKind.u8 0, Value.int IntKind.u8 0, Value.int IntKind.u8 0, Value.int IntKind.u8 0, Value.int IntKind.u8 0, Value.int IntKind.u8 0, Value.int IntKind.u8 0, Value.int IntKind.u8 0, Value.int IntKind.u8 0, Value.int IntKind.u8 0] 24 (0, 0))) := by show _ = _; rw [HB2.out.block _ HS0.out]; exact HR0.out
  clear hb2
  unfold dv
  go_wp2_with (refine wpList_store_row rfl 24 (.tmp 2) (.tmp 6) rfl w.heap.size (cellsOf d).toArray rfl rfl 24 _ HR2.out (by rw [size24, dig_size HDL.out]) (by rw [dig_size HDL.out]; rfl) (cells_all _) ?_)
  go_wp2_with fail
  refine bodyPost_ret (results_cell_row rfl _ _ w.heap.size 24 (cellsOf d).toArray (0, 0) _ rfl (setRow_heap _ _ _ _ _ _ HR2.out) Tryd.underlying24 rfl (by rw [size24, dig_size HDL.out])) rfl ?_
  exact ⟨rfl, below_row (HB0.out.trans (HB2.out.mono HB0.out.size)) (Nat.le_refl _) _⟩
set_option maxRecDepth 100000 in
set_option maxHeartbeats 1000000 in
theorem rootN_any (ao : Option Addr) (n c : Nat) (ls : List LV) (w : World) (hb : LeavesV w ao n c ls) (hn : n ≤ 1000) (hK : WW w 0 ks) (hz0 : 0 < w.heap.size) :
    Calls Tryd.prog 25 #[.slice ao n c] w fun e w' => e = .returned (dv (rootD 256 (bytesL ls))) ∧ Below w.heap.size w w' := by
  have HC : Hid (∀ W, Below w.heap.size w W → Calls Tryd.prog 23 #[.agg #[.int .i64 256], .slice ao n c] W fun e w' => e = .returned (dv (rootD 256 (bytesL ls))) ∧ Below W.heap.size W w') := fun W hW => root_any 256 z256 n ao c ls W (hb.below hW (Nat.le_refl _)) hn (hK.below hW hz0) (Nat.lt_of_lt_of_le hz0 hW.size)
  have hdl := rootD_length 256 (bytesL ls)
  obtain ⟨d, HD⟩ : ∃ d, Hid (rootD 256 (bytesL ls) = d) := ⟨_, rfl⟩
  rw [HD.out] at hdl HC ⊢
  have HDL : Hid (d.length = 32) := hdl
  clear hb hn hK hz0 hdl
  go_enter Tryd.func25, Tryd.ntmps25
  go_upto_region 1 with fail
  obtain ⟨W0, HW0⟩ : ∃ W, Hid (w.alloc (Obj.cells #[Value.int IntKind.u8 0, Value.int IntKind.u8 0, Value.int IntKind.u8 0, Value.int IntKind.u8 0, Value.int IntKind.u8 0, Value.int IntKind.u8 0, Value.int IntKind.u8 0, Value.int IntKind.u8 0, Value.int IntKind.u8 0, Value.int IntKind.u8 0, Value.int IntKind.u8 0, Value.int IntKind.u8 0, Value.int IntKind.u8 0, Value.int IntKind.u8 0, Value.int IntKind.u8 0, Value.int IntKind.u8 0, Value.int IntKind.u8 0, Value.int IntKind.u8 0, Value.int IntKind.u8 0, Value.int IntKind.u8 0, Value.int IntKind.u8 0, Value.int IntKind.u8 0, Value.int IntKind.u8 0, Value.int IntKind.u8 0, Value.int IntKind.u8 0, Value.int IntKind.u8 0, Value.int IntKind.u8 0, Value.int IntKind.u8 0, Value.int IntKind.u8 0, Value.int IntKind.u8 0, Value.int IntKind.u8 0, Value.int IntKind.u8 0] 24) = W) := ⟨_, rfl⟩
  have HR0 : Hid (W0.heap[w.heap.size]? = some (.cells #[Value.int IntKind.u8 0, Value.int IntKind.u8 0, Value.int IntKind.u8 0, Value.int IntKind.u8 0, Value.int IntKind.u8 0, Value.int IntKind.u8 0, Value.int IntKind.u8 0, Value.int IntKind.u8 0, Value.int IntKind.u8 0, Value.int IntKind.u8 0, Value.int IntKind.u8 0, Value.int IntKind.u8 0, Value.int IntKind.u8 0, Value.int IntKind.u8 0, Value.int IntKind.u8 0, Value.int IntKind.u8 0, Value.int IntKind.u8 0, Value.int IntKind.u8 0, Value.int IntKind.u8 0, Value.int IntKind.u8 0, Value.int IntKind.u8 0, Value.int IntKind.u8 0, Value.int IntKind.u8 0, Value.int IntKind.u8 0, Value.int IntKind.u8 0, Value.int IntKind.u8 0, Value.int IntKind.u8 0, Value.int IntKind.u8 0, Value.int IntKind.u8 0, Value.int IntKind.u8 0, Value.int IntKind.u8 0, Value.int IntKind.u8 0] 24 (0, 0))) := by show _ = _; rw [← HW0.out]; exact heap_alloc_new w _
  have HB0 : Hid (Below w.heap.size w W0) := by show Below _ _ _; rw [← HW0.out]; exact bel_alloc w _
  have HS0 : Hid (w.heap.size < W0.heap.size) := (Array.getElem?_eq_some_iff.1 HR0.out).1
  rw [HW0.out]
  clear HW0
  go_wp2_with fail
  refine (whole_any _).mono ?_
  rintro e w1 ⟨rfl, hb1⟩
  have HB1 : Hid (Below W0.heap.size W0 w1) := hb1
  clear hb1
  have hfd := field70_2
  go_wp2_with fail
  refine (HC.out _ (HB0.out.trans (HB1.out.mono HB0.out.size))).mono ?_
  rintro e w2 ⟨rfl, hb2⟩
  have HB2 : Hid (Below W0.heap.size W0 w2) := HB1.out.trans (hb2.mono HB1.out.size)
  have HR2 : Hid (w2.heap[w.heap.size]? = some (.cells #[Value.int IntKind.u8 0, Value.int IntKind.u8 0, Value.int IntKind.u8 0, Value.int IntKind.u8 0, Value.int IntKind.u8 0, Value.int IntKind.u8 0, Value.int IntKind.u8 0, Value.int IntKind.u8 0, Value.int IntKind.u8 0, Value.int IntKind.u8 0, Value.int IntKind.u8 0, Value.int IntKind.u8 0, Value.int IntKind.u8 0, Value.int IntKind.u8 0, Value.int IntKind.u8 0, Value.int IntKind.u8 0, Value.int IntKind.u8 0, Value.int IntKind.u8 0, Value.int IntKind.u8 0, Value.int IntKind.u8 0, Value.int IntKind.u8 0, Value.int IntKind.u8 0, Value.int IntKind.u8 0, Value.int IntKind.u8 0, Value.int IntKind.u8 0, Value.int IntKind.u8 0, Value.int IntKind.u8 0, Value.int IntKind.u8 0, Value.int IntKind.u8 0, Value.int IntKind.u8 0, Value.int IntKind.u8 0, Value.int IntKind.u8 0] 24 (0, 0))) := by show _ = _; rw [HB2.out.block _ HS0.out]; exact HR0.out
  clear hb2
  unfold dv
  go_wp2_with (refine wpList_store_row rfl 24 (.tmp 2) (.tmp 6) rfl w.heap.size (cellsOf d).toArray rfl rfl 24 _ HR2.out (by rw [size24, dig_size HDL.out]) (by rw [dig_size HDL.out]; rfl) (cells_all _) ?_)
  go_wp2_with fail
  refine bodyPost_ret (results_cell_row rfl _ _ w.heap.size 24 (cellsOf d).toArray (0, 0) _ rfl (setRow_heap _ _ _ _ _ _ HR2.out) Tryd.underlying24 rfl (by rw [size24, dig_size HDL.out])) rfl ?_
  exact ⟨rfl, below_row (HB0.out.trans (HB2.out.mono HB0.out.size)) (Nat.le_refl _) _⟩
theorem frame3a (w : World) (o1 o2 o3 : Obj) : (((w.alloc o1).alloc o2).alloc o3).heap[w.heap.size]? = some o1 ∧ (((w.alloc o1).alloc o2).alloc o3).heap[w.heap.size + 1]? = some o2 ∧ (((w.alloc o1).alloc o2).alloc o3).heap[w.heap.size + 1 + 1]? = some o3 ∧ Below w.heap.size w (((w.alloc o1).alloc o2).alloc o3) ∧ (((w.alloc o1).alloc o2).alloc o3).heap.size = w.heap.size + 3 := by
  obtain ⟨h1, h2, h3⟩ := frame3 w o1 o2 o3
  refine ⟨?_, h1, h2, h3, by simp⟩
  rw [Below.heap_alloc _ _ _ (by simp; omega), Below.heap_alloc _ _ _ (by simp)]
  exact heap_alloc_new w _
theorem range_of {w : World} {g : Nat} {d : List UInt8} {t : TypeId} {fr : Nat × Nat} (h : w.heap[g]? = some (.cells (cellsOf d).toArray t fr)) : w.rangeAt g 0 (cellsOf d) := fun j v hv => by
  rw [Nat.zero_add, cell_of_row w g j _ t fr h]
  simpa using hv
theorem range_bel {w w' : World} {B g o : Nat} {cs : List Value} (h : w.rangeAt g o cs) (hb : Below B w w') (hB : w.heap.size ≤ B) : w'.rangeAt g o cs := fun j v hv => bel_cell2 hb hB (h j v hv)
theorem range_far {w : World} {g k o : Nat} {cs : List Value} {ds : Array Value} (h : w.rangeAt g o cs) (hne : g ≠ k) : (w.setRow k ds).rangeAt g o cs := fun j v hv => cell_row_far (h j v hv) hne
set_option maxRecDepth 100000 in
set_option maxHeartbeats 2000000 in
theorem nodeN_any (l r : List UInt8) (w : World) (hl : l.length = 32) (hr : r.length = 32) (hK : WW w 0 ks) (hz0 : 0 < w.heap.size) :
    Calls Tryd.prog 28 #[dv l, dv r] w fun e w' => e = .returned (dv (nodeD 256 l r)) ∧ Below w.heap.size w w' := by
  have HC : Hid (∀ W, Below w.heap.size w W → Calls Tryd.prog 26 #[.agg #[.int .i64 256], .agg (cellsOf l).toArray, .agg (cellsOf r).toArray] W fun e w' => e = .returned (dv (nodeD 256 l r)) ∧ Below W.heap.size W w') := fun W hW => node_any 256 l r W hl hr (hK.below hW hz0) (Nat.lt_of_lt_of_le hz0 hW.size) z256
  have hdl := nodeD_length 256 l r
  obtain ⟨d, HD⟩ : ∃ d, Hid (nodeD 256 l r = d) := ⟨_, rfl⟩
  rw [HD.out] at hdl HC ⊢
  have HDL : Hid (d.length = 32) := hdl
  have HIL : Hid ((Tryd.prog.info? 24).map (·.size) = some (cellsOf l).length) := by show _ = _; rw [size24, cellsOf_length, hl]
  have HIR : Hid ((Tryd.prog.info? 24).map (·.size) = some (cellsOf r).length) := by show _ = _; rw [size24, cellsOf_length, hr]
  clear hK hdl hl hr hz0
  unfold dv
  obtain ⟨cl, HCL⟩ : ∃ c, Hid ((cellsOf l).toArray = c) := ⟨_, rfl⟩
  obtain ⟨cr, HCR⟩ : ∃ c, Hid ((cellsOf r).toArray = c) := ⟨_, rfl⟩
  rw [HCL.out, HCR.out]
  go_enter Tryd.func28, Tryd.ntmps28
  go_upto_region 1 with fail
  obtain ⟨W0, HW0⟩ : ∃ W, Hid (((w.alloc (Obj.cells cl 24)).alloc (Obj.cells cr 24)).alloc (Obj.cells #[Value.int IntKind.u8 0, Value.int IntKind.u8 0, Value.int IntKind.u8 0, Value.int IntKind.u8 0, Value.int IntKind.u8 0, Value.int IntKind.u8 0, Value.int IntKind.u8 0, Value.int IntKind.u8 0, Value.int IntKind.u8 0, Value.int IntKind.u8 0, Value.int IntKind.u8 0, Value.int IntKind.u8 0, Value.int IntKind.u8 0, Value.int IntKind.u8 0, Value.int IntKind.u8 0, Value.int IntKind.u8 0, Value.int IntKind.u8 0, Value.int IntKind.u8 0, Value.int IntKind.u8 0, Value.int IntKind.u8 0, Value.int IntKind.u8 0, Value.int IntKind.u8 0, Value.int IntKind.u8 0, Value.int IntKind.u8 0, Value.int IntKind.u8 0, Value.int IntKind.u8 0, Value.int IntKind.u8 0, Value.int IntKind.u8 0, Value.int IntKind.u8 0, Value.int IntKind.u8 0, Value.int IntKind.u8 0, Value.int IntKind.u8 0] 24) = W) := ⟨_, rfl⟩
  have HF := frame3a w (Obj.cells cl 24) (Obj.cells cr 24) (Obj.cells #[Value.int IntKind.u8 0, Value.int IntKind.u8 0, Value.int IntKind.u8 0, Value.int IntKind.u8 0, Value.int IntKind.u8 0, Value.int IntKind.u8 0, Value.int IntKind.u8 0, Value.int IntKind.u8 0, Value.int IntKind.u8 0, Value.int IntKind.u8 0, Value.int IntKind.u8 0, Value.int IntKind.u8 0, Value.int IntKind.u8 0, Value.int IntKind.u8 0, Value.int IntKind.u8 0, Value.int IntKind.u8 0, Value.int IntKind.u8 0, Value.int IntKind.u8 0, Value.int IntKind.u8 0, Value.int IntKind.u8 0, Value.int IntKind.u8 0, Value.int IntKind.u8 0, Value.int IntKind.u8 0, Value.int IntKind.u8 0, Value.int IntKind.u8 0, Value.int IntKind.u8 0, Value.int IntKind.u8 0, Value.int IntKind.u8 0, Value.int IntKind.u8 0, Value.int IntKind.u8 0, Value.int IntKind.u8 0, Value.int IntKind.u8 0] 24)
  rw [HW0.out] at HF ⊢
  have HS : Hid (∀ W, Below W0.heap.size W0 W → W.rangeAt w.heap.size 0 (cellsOf l) ∧ W.rangeAt (w.heap.size + 1) 0 (cellsOf r)) := fun W hW => ⟨range_bel (range_of (by rw [HCL.out]; exact HF.1)) hW (Nat.le_refl _), range_bel (range_of (by rw [HCR.out]; exact HF.2.1)) hW (Nat.le_refl _)⟩
  have HFH : Hid _ := HF
  clear HF HW0
  refine wp_region_held_drew (S := fun W => W.rangeAt w.heap.size 0 (cellsOf l) ∧ W.rangeAt (w.heap.size + 1) 0 (cellsOf r)) (by kernel_rfl) (HS.out _ (Below.drew (Below.refl _ _))) (fun hS => ?_)
  refine wpAnyH_take (i := 2) (v := .agg (cellsOf l).toArray) rfl (by kernel_rfl) (by kernel_rfl) (by kernel_rfl) (fun _ _ _ h => h) (yieldsIf_load_mid (by rfl) 24 (.tmp 2) rfl w.heap.size 0 rfl (cellsOf l) _ (fun _ h => h.1) Tryd.underlying24 rfl HIL.out) (by assumption) ?_
  simp only [Act.put, List.getElem_toArray, List.getElem_cons_zero, List.getElem_cons_succ, List.setIfInBounds_toArray, List.set_cons_zero, List.set_cons_succ]
  refine wpAnyH_take (i := 3) (v := .agg (cellsOf r).toArray) rfl (by kernel_rfl) (by kernel_rfl) (by kernel_rfl) (fun _ _ _ h => h) (yieldsIf_load_mid (by rfl) 24 (.tmp 3) rfl (w.heap.size + 1) 0 rfl (cellsOf r) _ (fun _ h => h.2) Tryd.underlying24 rfl HIR.out) (by assumption) ?_
  simp only [Act.put, List.getElem_toArray, List.getElem_cons_zero, List.getElem_cons_succ, List.setIfInBounds_toArray, List.set_cons_zero, List.set_cons_succ]
  refine wpAnyH_ready (rs := [0]) (by kernel_rfl) (by simp) ?_
  refine AllReadyH.cons rfl (fun K hK => ?_) AllReadyH.nil
  go_simp
  refine (whole_any _).mono ?_
  rintro e w1 ⟨rfl, hb1⟩
  have HB1 : Hid (Below W0.heap.size W0 w1) := (Below.drew (Below.refl _ _)).trans hb1
  go_wp2_with fail
  refine hK.out _ _ (HS.out _ HB1.out) (fun hHeld2 => ?_)
  clear hK K hb1
  have hfd := field70_1
  refine wpAnyH_take (i := 1) (v := ?_) rfl (by kernel_rfl) (by kernel_rfl) (by kernel_rfl) (fun _ _ _ h => h) (Or.inl ⟨by rfl, ?_⟩) (by assumption) ?_
  rotate_left
  · (intro w hSw; (try dsimp only at hSw); go_simp; try with_reducible rfl)
  simp only [Act.put, List.getElem_toArray, List.getElem_cons_zero, List.getElem_cons_succ, List.setIfInBounds_toArray, List.set_cons_zero, List.set_cons_succ]
  refine wpAnyH_ready (rs := [4]) (by kernel_rfl) (by simp) ?_
  refine AllReadyH.cons rfl (fun K hK => ?_) AllReadyH.nil
  go_simp
  refine (HC.out _ (HFH.out.2.2.2.1.trans (HB1.out.mono (by rw [HFH.out.2.2.2.2]; omega)))).mono ?_
  rintro e w2 ⟨rfl, hb2⟩
  have HB2 : Hid (Below W0.heap.size W0 w2) := HB1.out.trans (hb2.mono HB1.out.size)
  have hres : w2.heap[w.heap.size + 1 + 1]? = some (.cells #[Value.int IntKind.u8 0, Value.int IntKind.u8 0, Value.int IntKind.u8 0, Value.int IntKind.u8 0, Value.int IntKind.u8 0, Value.int IntKind.u8 0, Value.int IntKind.u8 0, Value.int IntKind.u8 0, Value.int IntKind.u8 0, Value.int IntKind.u8 0, Value.int IntKind.u8 0, Value.int IntKind.u8 0, Value.int IntKind.u8 0, Value.int IntKind.u8 0, Value.int IntKind.u8 0, Value.int IntKind.u8 0, Value.int IntKind.u8 0, Value.int IntKind.u8 0, Value.int IntKind.u8 0, Value.int IntKind.u8 0, Value.int IntKind.u8 0, Value.int IntKind.u8 0, Value.int IntKind.u8 0, Value.int IntKind.u8 0, Value.int IntKind.u8 0, Value.int IntKind.u8 0, Value.int IntKind.u8 0, Value.int IntKind.u8 0, Value.int IntKind.u8 0, Value.int IntKind.u8 0, Value.int IntKind.u8 0, Value.int IntKind.u8 0] 24 (0, 0)) := by
    rw [HB2.out.block _ (by rw [HFH.out.2.2.2.2]; omega)]; exact HFH.out.2.2.1
  go_wp2_with fail
  refine hK.out _ _ (HS.out _ HB2.out) (fun hHeld2 => ?_)
  clear hK K hb2
  refine wpAnyH_ready (rs := [5]) (by kernel_rfl) (by simp) ?_
  refine AllReadyH.cons rfl (fun K hK => ?_) AllReadyH.nil
  rw [if_pos (by rfl)]
  refine wp_store_row 24 (.tmp 4) (.tmp 9) rfl (w.heap.size + 1 + 1) (cellsOf d).toArray rfl rfl 24 _ hres (by rw [size24, dig_size HDL.out]) (by rw [dig_size HDL.out]; rfl) (cells_all _) ?_
  refine hK.out _ _ ⟨range_far (HS.out _ HB2.out).1 (by omega), range_far (HS.out _ HB2.out).2 (by omega)⟩ (fun hHeld2 => ?_)
  clear hK K
  refine wpAnyH_done (by kernel_rfl) ?_ _
  have HRES : Hid _ := hres
  clear hres hS hHeld2 hfd
  go_wp2_with fail
  refine bodyPost_ret (results_cell_row rfl _ _ (w.heap.size + 1 + 1) 24 (cellsOf d).toArray (0, 0) _ rfl (setRow_heap _ _ _ _ _ _ HRES.out) Tryd.underlying24 rfl (by rw [size24, dig_size HDL.out])) rfl ?_
  exact ⟨rfl, below_row (HFH.out.2.2.2.1.trans (HB2.out.mono (by rw [HFH.out.2.2.2.2]; omega))) (by omega) _⟩
end Go.Proofs.YtaebpnednhkfhaaDoor
