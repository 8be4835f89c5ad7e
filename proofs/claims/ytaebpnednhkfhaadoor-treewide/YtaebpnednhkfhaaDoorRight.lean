/-
  What tree.atRight answers: a contract over this translation.
-/
import Derived.Test.YtaebpnednhkfhaaDoorPath
namespace Go.Proofs.YtaebpnednhkfhaaDoor
open Go.RowKit
set_option maxHeartbeats 4000000 in
set_option maxRecDepth 100000 in
theorem right_any (z : Int) (l r : List UInt8) (w : World) (hl : l.length = 32) (hr : r.length = 32) (hK : WW w 0 ks) (hz0 : 0 < w.heap.size) (hz : -9223372036854775808 ≤ z ∧ z ≤ 9223372036854775807) :
    Calls Tryd.prog 83 #[.agg #[.int .i64 z], dv l, dv r] w fun e w' => e = .returned (dv (nodeD z r l)) ∧ Below w.heap.size w w' := by
  have HN : Hid (∀ W, Below w.heap.size w W → Calls Tryd.prog 26 #[.agg #[.int .i64 z], .agg (cellsOf r).toArray, .agg (cellsOf l).toArray] W fun e w' => e = .returned (dv (nodeD z r l)) ∧ Below W.heap.size W w') := fun W hW => node_any z r l W hr hl (hK.below hW hz0) (Nat.lt_of_lt_of_le hz0 hW.size) hz
  have hdl := nodeD_length z r l
  obtain ⟨d, HD⟩ : ∃ d, Hid (nodeD z r l = d) := ⟨_, rfl⟩
  rw [HD.out] at hdl HN ⊢
  have HDL : Hid (d.length = 32) := hdl
  have HIL : Hid ((Tryd.prog.info? 24).map (·.size) = some (cellsOf l).toArray.size) := by show _ = _; rw [size24, dig_size hl]
  have HIR : Hid ((Tryd.prog.info? 24).map (·.size) = some (cellsOf r).toArray.size) := by show _ = _; rw [size24, dig_size hr]
  clear hK hdl hl hr hz0 hz
  unfold dv
  obtain ⟨cl, HCL⟩ : ∃ c, Hid ((cellsOf l).toArray = c) := ⟨_, rfl⟩
  obtain ⟨cr, HCR⟩ : ∃ c, Hid ((cellsOf r).toArray = c) := ⟨_, rfl⟩
  rw [HCL.out] at HIL HN ⊢
  rw [HCR.out] at HIR HN ⊢
  go_enter Tryd.func83, Tryd.ntmps83
  go_upto_region 1 with fail
  obtain ⟨W0, HW0⟩ : ∃ W, Hid (W = (((w.alloc (Obj.cells #[Value.int IntKind.i64 z] 30)).alloc (Obj.cells cl 24)).alloc (Obj.cells cr 24)).alloc (Obj.cells #[Value.int IntKind.u8 0, Value.int IntKind.u8 0, Value.int IntKind.u8 0, Value.int IntKind.u8 0, Value.int IntKind.u8 0, Value.int IntKind.u8 0, Value.int IntKind.u8 0, Value.int IntKind.u8 0, Value.int IntKind.u8 0, Value.int IntKind.u8 0, Value.int IntKind.u8 0, Value.int IntKind.u8 0, Value.int IntKind.u8 0, Value.int IntKind.u8 0, Value.int IntKind.u8 0, Value.int IntKind.u8 0, Value.int IntKind.u8 0, Value.int IntKind.u8 0, Value.int IntKind.u8 0, Value.int IntKind.u8 0, Value.int IntKind.u8 0, Value.int IntKind.u8 0, Value.int IntKind.u8 0, Value.int IntKind.u8 0, Value.int IntKind.u8 0, Value.int IntKind.u8 0, Value.int IntKind.u8 0, Value.int IntKind.u8 0, Value.int IntKind.u8 0, Value.int IntKind.u8 0, Value.int IntKind.u8 0, Value.int IntKind.u8 0] 24)) := ⟨_, rfl⟩
  have HF := frame4 w (Obj.cells #[Value.int IntKind.i64 z] 30) (Obj.cells cl 24) (Obj.cells cr 24) #[Value.int IntKind.u8 0, Value.int IntKind.u8 0, Value.int IntKind.u8 0, Value.int IntKind.u8 0, Value.int IntKind.u8 0, Value.int IntKind.u8 0, Value.int IntKind.u8 0, Value.int IntKind.u8 0, Value.int IntKind.u8 0, Value.int IntKind.u8 0, Value.int IntKind.u8 0, Value.int IntKind.u8 0, Value.int IntKind.u8 0, Value.int IntKind.u8 0, Value.int IntKind.u8 0, Value.int IntKind.u8 0, Value.int IntKind.u8 0, Value.int IntKind.u8 0, Value.int IntKind.u8 0, Value.int IntKind.u8 0, Value.int IntKind.u8 0, Value.int IntKind.u8 0, Value.int IntKind.u8 0, Value.int IntKind.u8 0, Value.int IntKind.u8 0, Value.int IntKind.u8 0, Value.int IntKind.u8 0, Value.int IntKind.u8 0, Value.int IntKind.u8 0, Value.int IntKind.u8 0, Value.int IntKind.u8 0, Value.int IntKind.u8 0] 24 W0 HW0.out
  rw [← HW0.out]
  have HFH : Hid _ := HF
  have c0 : W0.cell? ⟨w.heap.size, 0, none⟩ = some (.int .i64 z) := by rw [cell_of_row W0 _ 0 _ _ _ HF.1]; rfl
  clear HF HW0
  go_wp2_with (first | (refine wpList_load_row rfl 24 (.tmp 5) rfl (w.heap.size + 2) rfl 24 cr (0, 0) _ HFH.out.2.2.1 Tryd.underlying24 rfl HIR.out ?_) | (refine wpList_load_row rfl 24 (.tmp 4) rfl (w.heap.size + 1) rfl 24 cl (0, 0) _ HFH.out.2.1 Tryd.underlying24 rfl HIL.out ?_))
  refine (HN.out _ HFH.out.2.2.2.2.1).mono ?_
  rintro e w1 ⟨rfl, hb1⟩
  have HRES : Hid (w1.heap[w.heap.size + 3]? = some (.cells #[Value.int IntKind.u8 0, Value.int IntKind.u8 0, Value.int IntKind.u8 0, Value.int IntKind.u8 0, Value.int IntKind.u8 0, Value.int IntKind.u8 0, Value.int IntKind.u8 0, Value.int IntKind.u8 0, Value.int IntKind.u8 0, Value.int IntKind.u8 0, Value.int IntKind.u8 0, Value.int IntKind.u8 0, Value.int IntKind.u8 0, Value.int IntKind.u8 0, Value.int IntKind.u8 0, Value.int IntKind.u8 0, Value.int IntKind.u8 0, Value.int IntKind.u8 0, Value.int IntKind.u8 0, Value.int IntKind.u8 0, Value.int IntKind.u8 0, Value.int IntKind.u8 0, Value.int IntKind.u8 0, Value.int IntKind.u8 0, Value.int IntKind.u8 0, Value.int IntKind.u8 0, Value.int IntKind.u8 0, Value.int IntKind.u8 0, Value.int IntKind.u8 0, Value.int IntKind.u8 0, Value.int IntKind.u8 0, Value.int IntKind.u8 0] 24 (0, 0))) := by
    show _ = _
    rw [hb1.block _ (by rw [HFH.out.2.2.2.2.2]; omega)]; exact HFH.out.2.2.2.1
  have HB : Hid (Below w.heap.size w w1) := HFH.out.2.2.2.2.1.trans (hb1.mono (by rw [HFH.out.2.2.2.2.2]; omega))
  clear hb1 c0
  unfold dv
  go_wp2_with (refine wpList_store_row rfl 24 (.tmp 6) (.tmp 10) rfl (w.heap.size + 3) (cellsOf d).toArray rfl rfl 24 _ HRES.out (by rw [size24, dig_size HDL.out]) (by rw [dig_size HDL.out]; rfl) (cells_all _) ?_)
  refine bodyPost_ret (results_cell_row rfl _ _ (w.heap.size + 3) 24 (cellsOf d).toArray (0, 0) _ rfl (setRow_heap _ _ _ _ _ _ HRES.out) Tryd.underlying24 rfl (by rw [size24, dig_size HDL.out])) rfl ?_
  exact ⟨rfl, below_row HB.out (by omega) _⟩
end Go.Proofs.YtaebpnednhkfhaaDoor
