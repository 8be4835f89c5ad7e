/-
  Digests compared and loaded: laws over this translation. What tree.Leaf and tree.Node of a tree answer: contracts over this translation. The shape of a tree, and what math/bits.Len answers: contracts over this translation.
-/
import Derived.Test.YtecacjddggljgaaDoorPartBH
import Derived.Lib.SlBytesConst
import Derived.Stop.BytesEq
import Derived.Deep.DeepCutAuto
import Derived.Deep.RegionHeld3
import Derived.Lib.BitFns
namespace Go.Proofs.YtecacjddggljgaaDoor.Sm
open Go.RowKit
set_option maxRecDepth 100000 in
theorem guard24 : Tryd.prog.eqGuardType Tryd.prog.depth 46 = false := by kernel_rfl
theorem sizeOf5 (w : World) : (sizeOf 5).run Tryd.prog w = .ok 1 w := by
  obtain ⟨i0, hi, hz0, hz1, hz2⟩ := info_parts info5
  simp [sizeOf, typeInfo, hi, hz1]
theorem run_eq_dig (xs ys : List UInt8) (hx : xs.length = 32) (hy : ys.length = 32) (w : World) : (binOp .eql 46 (.agg (cellsOf xs).toArray) (.agg (cellsOf ys).toArray)).run Tryd.prog w = .ok (.bool (xs == ys)) w :=
  run_eql_bytes w 46 5 32 Tryd.underlying46 Tryd.underlying5 sizeOf5 xs ys hx hy
theorem run_ne_dig (xs ys : List UInt8) (hx : xs.length = 32) (hy : ys.length = 32) (w : World) : (binOp .neq 46 (.agg (cellsOf xs).toArray) (.agg (cellsOf ys).toArray)).run Tryd.prog w = .ok (.bool (!(xs == ys))) w := by
  rw [run_neq_struct, show (cellsOf xs).toArray = (xs.map Extern.Stop.cell).toArray from rfl, show (cellsOf ys).toArray = (ys.map Extern.Stop.cell).toArray from rfl, run_equalIn_bytes w 9998 46 5 32 Tryd.underlying46 Tryd.underlying5 sizeOf5 xs ys hx hy]
  rfl
theorem run_load24 {w : World} {q : Nat} {B : Array Value} {fr : Nat × Nat} (h : w.heap[q]? = some (.cells B 46 fr)) (hs : B.size = 32) : (Instr.loadAt 46 (.pointer (some ⟨q, 0, none⟩))).run Tryd.prog w = .ok (.agg B) w := by
  simp only [Instr.loadAt, Instr.sureAddr, Sem.run_bind, Sem.run_pure, Result.andThen_ok]
  exact run_loadVar_row _ _ 46 46 B fr _ h Tryd.underlying46 rfl (by rw [size24, hs])
theorem wpList_load_rowG {P : Program} {ops : Array Oper} {rest : List Oper} {o : Oper} {a : Act} {w : World} {Q : Exit → Act → World → Prop} (hw : Region.wanted o (yielded ops a.tmps) = true) (ty : TypeId) (x : Operand) (ho : o.op = .load ty x)
    (g : Nat) (hx : a.eval x = .pointer (some ⟨g, 0, none⟩)) (t : TypeId) (cs : Array Value) (fr : Nat × Nat) (d : TypeDesc) (hg : w.heap[g]? = some (.cells cs t fr))
    (hu : P.underlying ty = some d) (hd : (match d with | .struct _ | .array _ _ => true | _ => false) = true) (hi : (P.info? ty).map (·.size) = some cs.size)
    (h : wpList P ops Q rest (a.put o.dst (.agg cs)) w) : wpList P ops Q (o :: rest) a w :=
  BigFrame.wpList_want hw fun _ hK => wp_load_row ty x ho g hx t cs fr d hg hu hd hi (hK _ _ h)
end Go.Proofs.YtecacjddggljgaaDoor.Sm
namespace Go.Proofs.YtecacjddggljgaaDoor.Sm
open Go.RowKit
/-- The first bits of a sum. -/
def keptZ (z : Int) (bs : List UInt8) : List UInt8 := keptB (shaB bs) (min (max z 0) 256).toNat 32
theorem keptZ_length (z : Int) (bs : List UInt8) : (keptZ z bs).length = 32 := by unfold keptZ; rw [keptB_length, shaB_length]
def leafD (z : Int) (bs : List UInt8) : List UInt8 := keptZ z (0 :: bs)
def nodeD (z : Int) (l r : List UInt8) : List UInt8 := keptZ z (1 :: (l ++ r))
theorem leafD_length (z : Int) (bs : List UInt8) : (leafD z bs).length = 32 := keptZ_length _ _
theorem nodeD_length (z : Int) (l r : List UInt8) : (nodeD z l r).length = 32 := keptZ_length _ _
/-- A digest as a value. -/
def dv (d : List UInt8) : Value := .agg (cellsOf d).toArray
theorem kept_own (v : Value) (n : Nat) (bs : List UInt8) (z : Int) (w : World) (base : Nat) (hown : w.ownsRow base 5 1 v n (cellsOf bs)) (hn : n ≤ 140737488355328) (hK : WW w 1 ks) (h0 : 1 < w.heap.size) (hz : -9223372036854775808 ≤ z ∧ z ≤ 9223372036854775807) :
    Calls Tryd.prog 67 #[v, .int .i64 z] w fun e w' => e = .returned (dv (keptZ z bs)) ∧ Below w.heap.size w w' := by
  obtain ⟨ao, c, rfl, hb, h1, h2, h3, _⟩ := own_bytes hown
  unfold maxLen at h3
  exact kept_cap ao n c bs z w hb h2 (by omega) (by omega) hK h0 hz.1 hz.2
theorem below_row {B g : Nat} {w w' : World} (h : Below B w w') (hg : B ≤ g) (cs : Array Value) : Below B w (w'.setRow g cs) := below_setRow h hg cs
theorem cells_all (d : List UInt8) : (cellsOf d).toArray.all (·.oneCell') = true := all_oneCell_toArray (cellsOf_one _)
theorem own_one (w : World) (c : UInt8) : (w.alloc (.cells #[.int .u8 (c.toNat : Int)] 5)).ownsRow w.heap.size 5 1 (.slice (some ⟨w.heap.size, 0, none⟩) 1 1) 1 (cellsOf [c]) :=
  ⟨rfl, .inr ⟨w.heap.size, 1, _, rfl, Nat.le_refl _, heap_alloc_new w _, Nat.le_refl _, by unfold maxLen; omega, rfl, rfl⟩⟩
theorem dig_size {d : List UInt8} (h : d.length = 32) : (cellsOf d).toArray.size = 32 := by rw [List.size_toArray, cellsOf_length, h]
theorem cell_row_far {w : World} {g : Nat} {a : Addr} {v : Value} {cs : Array Value} (hc : w.cell? a = some v) (hne : a.block ≠ g) : (w.setRow g cs).cell? a = some v := by
  rw [World.cell?_of_block (((Chg.refl g w).row cs).block a.block (World.block_lt_of_cell? w a hc) hne)]; exact hc
theorem frame2 (w : World) (o1 : Obj) (A : Array Value) (t : TypeId) : ((w.alloc o1).alloc (.cells A t)).heap[w.heap.size]? = some o1 ∧ ((w.alloc o1).alloc (.cells A t)).heap[w.heap.size + 1]? = some (.cells A t (0, 0)) ∧ Below w.heap.size w ((w.alloc o1).alloc (.cells A t)) ∧ ((w.alloc o1).alloc (.cells A t)).heap.size = w.heap.size + 2 := by
  refine ⟨?_, ?_, (bel_alloc w _).trans ((bel_alloc _ _).mono (by simp)), by simp⟩
  · rw [Below.heap_alloc _ _ _ (by simp)]; exact heap_alloc_new w _
  · have := heap_alloc_new (w.alloc o1) (.cells A t)
    simpa using this
theorem bel_cell2 {w w' : World} {B : Nat} {a : Addr} {v : Value} (h : Below B w w') (hB : w.heap.size ≤ B) (hc : w.cell? a = some v) : w'.cell? a = some v := by
  rw [h.cell (Nat.lt_of_lt_of_le (World.block_lt_of_cell? w a hc) hB)]; exact hc
set_option maxRecDepth 100000 in
set_option maxHeartbeats 2000000 in
theorem leaf_any (z : Int) (ao : Option Addr) (n c : Nat) (bs : List UInt8) (w : World) (hb : Bytes w ao n bs) (h0 : ao = none → c = 0) (hn : n ≤ 140737488355000) (hK : WW w 1 ks) (hz0 : 1 < w.heap.size) (hz : -9223372036854775808 ≤ z ∧ z ≤ 9223372036854775807) :
    Calls Tryd.prog 85 #[.agg #[.int .i64 z], .slice ao n c] w fun e w' => e = .returned (dv (leafD z bs)) ∧ Below w.heap.size w w' := by
  have HB : Hid (Bytes w ao n bs) := hb
  have HK : Hid (WW w 1 ks) := hK
  have H0 : Hid (ao = none → c = 0) := h0
  have hdl := leafD_length z bs
  obtain ⟨d, HD⟩ : ∃ d, Hid (leafD z bs = d) := ⟨_, rfl⟩
  rw [HD.out] at hdl ⊢
  have HDL : Hid (d.length = 32) := hdl
  clear hb hK h0 hdl
  go_enter Tryd.func85, Tryd.ntmps85
  go_wp2_with fail
  obtain ⟨W0, HW0⟩ : ∃ W, Hid ((w.alloc (Obj.cells #[Value.int IntKind.i64 z] 26)).alloc (Obj.cells #[Value.int IntKind.u8 0, Value.int IntKind.u8 0, Value.int IntKind.u8 0, Value.int IntKind.u8 0, Value.int IntKind.u8 0, Value.int IntKind.u8 0, Value.int IntKind.u8 0, Value.int IntKind.u8 0, Value.int IntKind.u8 0, Value.int IntKind.u8 0, Value.int IntKind.u8 0, Value.int IntKind.u8 0, Value.int IntKind.u8 0, Value.int IntKind.u8 0, Value.int IntKind.u8 0, Value.int IntKind.u8 0, Value.int IntKind.u8 0, Value.int IntKind.u8 0, Value.int IntKind.u8 0, Value.int IntKind.u8 0, Value.int IntKind.u8 0, Value.int IntKind.u8 0, Value.int IntKind.u8 0, Value.int IntKind.u8 0, Value.int IntKind.u8 0, Value.int IntKind.u8 0, Value.int IntKind.u8 0, Value.int IntKind.u8 0, Value.int IntKind.u8 0, Value.int IntKind.u8 0, Value.int IntKind.u8 0, Value.int IntKind.u8 0] 46) = W) := ⟨_, rfl⟩
  have HF := frame2 w (Obj.cells #[Value.int IntKind.i64 z] 26) #[Value.int IntKind.u8 0, Value.int IntKind.u8 0, Value.int IntKind.u8 0, Value.int IntKind.u8 0, Value.int IntKind.u8 0, Value.int IntKind.u8 0, Value.int IntKind.u8 0, Value.int IntKind.u8 0, Value.int IntKind.u8 0, Value.int IntKind.u8 0, Value.int IntKind.u8 0, Value.int IntKind.u8 0, Value.int IntKind.u8 0, Value.int IntKind.u8 0, Value.int IntKind.u8 0, Value.int IntKind.u8 0, Value.int IntKind.u8 0, Value.int IntKind.u8 0, Value.int IntKind.u8 0, Value.int IntKind.u8 0, Value.int IntKind.u8 0, Value.int IntKind.u8 0, Value.int IntKind.u8 0, Value.int IntKind.u8 0, Value.int IntKind.u8 0, Value.int IntKind.u8 0, Value.int IntKind.u8 0, Value.int IntKind.u8 0, Value.int IntKind.u8 0, Value.int IntKind.u8 0, Value.int IntKind.u8 0, Value.int IntKind.u8 0] 46
  rw [HW0.out] at HF ⊢
  have c0' : W0.cell? ⟨w.heap.size, 0, none⟩ = some (.int .i64 z) := by rw [cell_of_row W0 _ 0 _ _ _ HF.1]; rfl
  have c0 : W0.drew.cell? ⟨w.heap.size, 0, none⟩ = some (.int .i64 z) := c0'
  clear c0'
  have HFH : Hid _ := HF
  clear HF HW0
  refine wp_region_held_drew (S := fun w' => w'.cell? ⟨w.heap.size, 0, none⟩ = some (.int .i64 z)) (by kernel_rfl) c0 (fun hS => ?_)
  refine wpAnyH_take (i := 1) (v := ?_) rfl (by kernel_rfl) (by kernel_rfl) (by kernel_rfl) (fun _ _ _ h => h) (Or.inl ⟨by rfl, ?_⟩) (by assumption) ?_
  rotate_left
  · (intro w hSw; (try dsimp only at hSw); go_simp; try with_reducible rfl)
  simp only [Act.put, List.getElem_toArray, List.getElem_cons_zero, List.getElem_cons_succ, List.setIfInBounds_toArray, List.set_cons_zero, List.set_cons_succ]
  refine wpAnyH_take (i := 3) (v := ?_) rfl (by kernel_rfl) (by kernel_rfl) (by kernel_rfl) (fun _ _ _ h => h) (Or.inl ⟨by rfl, ?_⟩) (by assumption) ?_
  rotate_left
  · (intro w hSw; (try dsimp only at hSw); go_simp; try with_reducible rfl)
  simp only [Act.put, List.getElem_toArray, List.getElem_cons_zero, List.getElem_cons_succ, List.setIfInBounds_toArray, List.set_cons_zero, List.set_cons_succ]
  refine wpAnyH_take (i := 4) (v := ?_) rfl (by kernel_rfl) (by kernel_rfl) (by kernel_rfl) (fun _ _ _ h => h) (Or.inl ⟨by rfl, ?_⟩) (by assumption) ?_
  rotate_left
  · (intro w hSw; (try dsimp only at hSw); go_simp; try with_reducible rfl)
  simp only [Act.put, List.getElem_toArray, List.getElem_cons_zero, List.getElem_cons_succ, List.setIfInBounds_toArray, List.set_cons_zero, List.set_cons_succ]
  refine wpAnyH_ready (rs := [0]) (by kernel_rfl) (by simp) ?_
  refine AllReadyH.cons rfl (fun K hK => ?_) AllReadyH.nil
  go_simp
  refine hK.out _ _ ?_ (fun hHeld2 => ?_)
  · exact bel_cell2 (bel_alloc W0.drew _) (Nat.le_refl _) c0
  clear hK K
  refine wpAnyH_ready (rs := [2]) (by kernel_rfl) (by simp) ?_
  refine AllReadyH.cons rfl (fun K hK => ?_) AllReadyH.nil
  refine step_append_bytes _ rfl (.tmp 5) (.tmp 6) rfl W0.heap.size _ 1 [0] rfl (own_one W0.drew 0) (by simp) ao n c bs rfl (bytes_kept HB.out (HFH.out.2.2.1.trans ((Below.drew (Below.refl _ _)).alloc (by simp [HFH.out.2.2.2]) _)) (Nat.le_refl _)) H0.out (by omega) ?_
  intro v2 w2 hown2 hb2
  have hlen : ([0] ++ bs).length = n + 1 := by have := HB.out.1; simp; omega
  have HB2 : Hid (Below W0.heap.size W0 w2) := ((Below.drew (Below.refl _ _)).alloc (Nat.le_refl _) _).trans hb2
  have hz2 := HB2.out.size
  have HCK : Hid _ := kept_own v2 ([0] ++ bs).length ([0] ++ bs) z w2 W0.heap.size hown2 (by rw [hlen]; omega) (HK.out.below (HFH.out.2.2.1.trans (HB2.out.mono (by rw [HFH.out.2.2.2]; omega))) hz0) (by rw [HFH.out.2.2.2] at hz2; omega) hz
  rw [show keptZ z ([0] ++ bs) = d from by rw [← HD.out, leafD]; rfl] at HCK
  refine hK.out _ _ ?_ (fun hHeld2 => ?_)
  · exact bel_cell2 HB2.out (Nat.le_refl _) c0
  clear hK K hown2 hb2
  simp only [Act.put, List.getElem_toArray, List.getElem_cons_zero, List.getElem_cons_succ, List.setIfInBounds_toArray, List.set_cons_zero, List.set_cons_succ]
  refine wpAnyH_ready (rs := [5]) (by kernel_rfl) (by simp) ?_
  refine AllReadyH.cons rfl (fun K hK => ?_) AllReadyH.nil
  go_simp
  refine Calls.mono HCK.out ?_
  rintro e w3 ⟨rfl, hb3⟩
  have HB3 : Hid (Below W0.heap.size W0 w3) := HB2.out.trans (hb3.mono hz2)
  have hres : w3.heap[w.heap.size + 1]? = some (.cells #[Value.int IntKind.u8 0, Value.int IntKind.u8 0, Value.int IntKind.u8 0, Value.int IntKind.u8 0, Value.int IntKind.u8 0, Value.int IntKind.u8 0, Value.int IntKind.u8 0, Value.int IntKind.u8 0, Value.int IntKind.u8 0, Value.int IntKind.u8 0, Value.int IntKind.u8 0, Value.int IntKind.u8 0, Value.int IntKind.u8 0, Value.int IntKind.u8 0, Value.int IntKind.u8 0, Value.int IntKind.u8 0, Value.int IntKind.u8 0, Value.int IntKind.u8 0, Value.int IntKind.u8 0, Value.int IntKind.u8 0, Value.int IntKind.u8 0, Value.int IntKind.u8 0, Value.int IntKind.u8 0, Value.int IntKind.u8 0, Value.int IntKind.u8 0, Value.int IntKind.u8 0, Value.int IntKind.u8 0, Value.int IntKind.u8 0, Value.int IntKind.u8 0, Value.int IntKind.u8 0, Value.int IntKind.u8 0, Value.int IntKind.u8 0] 46 (0, 0)) := by
    rw [HB3.out.block _ (by rw [HFH.out.2.2.2]; omega)]; exact HFH.out.2.1
  go_wp2_with fail
  refine hK.out _ _ ?_ (fun hHeld2 => ?_)
  · exact bel_cell2 HB3.out (Nat.le_refl _) c0
  clear hK K hb3 HCK
  refine wpAnyH_ready (rs := [6]) (by kernel_rfl) (by simp) ?_
  refine AllReadyH.cons rfl (fun K hK => ?_) AllReadyH.nil
  rw [if_pos (by rfl)]
  refine wp_store_row 46 (.tmp 4) (.tmp 10) rfl (w.heap.size + 1) (cellsOf d).toArray rfl rfl 46 _ hres (by rw [size24, dig_size HDL.out]) (by rw [dig_size HDL.out]; rfl) (cells_all _) ?_
  refine hK.out _ _ ?_ (fun hHeld2 => ?_)
  · exact cell_row_far (bel_cell2 HB3.out (Nat.le_refl _) c0) (show w.heap.size ≠ w.heap.size + 1 by omega)
  clear hK K
  refine wpAnyH_done (by kernel_rfl) ?_ _
  have HRES : Hid _ := hres
  clear hres hz2 hn hz0 hz hlen
  go_wp2_with fail
  refine bodyPost_ret (results_cell_row rfl _ _ (w.heap.size + 1) 46 (cellsOf d).toArray (0, 0) _ rfl (setRow_heap _ _ _ _ _ _ HRES.out) Tryd.underlying46 rfl (by rw [size24, dig_size HDL.out])) rfl ?_
  exact ⟨rfl, below_row (HFH.out.2.2.1.trans (HB3.out.mono (by rw [HFH.out.2.2.2]; omega))) (by omega) _⟩
theorem frame4 (w : World) (o1 o2 o3 : Obj) (A : Array Value) (t : TypeId) :
    ∀ W, W = (((w.alloc o1).alloc o2).alloc o3).alloc (.cells A t) → W.heap[w.heap.size]? = some o1 ∧ W.heap[w.heap.size + 1]? = some o2 ∧ W.heap[w.heap.size + 2]? = some o3 ∧ W.heap[w.heap.size + 3]? = some (.cells A t (0, 0)) ∧ Below w.heap.size w W ∧ W.heap.size = w.heap.size + 4 := by
  rintro W rfl
  obtain ⟨h1, h2, h3, -⟩ := frame2 ((w.alloc o1).alloc o2) o3 A t
  simp only [World.size_alloc] at h1 h2 h3
  refine ⟨?_, ?_, h1, h2, ((bel_alloc w _).trans ((bel_alloc _ _).mono (by simp))).trans (h3.mono (by omega)), by simp⟩
  · rw [h3.block _ (by omega), Below.heap_alloc _ _ _ (by simp)]; exact heap_alloc_new w _
  · rw [h3.block _ (by omega)]
    have := heap_alloc_new (w.alloc o1) o2
    simpa using this
theorem own_drew {w : World} {base n : Nat} {v : Value} {xs : List Value} (h : w.ownsRow base 5 1 v n xs) : w.drew.ownsRow base 5 1 v n xs := own_below h (Below.drew (Below.refl _ _)) (Nat.le_refl _)
theorem bytes32 {w : World} {g : Nat} {d : List UInt8} {t : TypeId} {fr : Nat × Nat} (h : w.heap[g]? = some (.cells (cellsOf d).toArray t fr)) (hd : d.length = 32) : Bytes w (some ⟨g, 0, none⟩) 32 d := by
  have := block_bytes h
  rw [hd] at this
  exact this
set_option maxRecDepth 100000 in
set_option maxHeartbeats 2000000 in
theorem node_any (z : Int) (l r : List UInt8) (w : World) (hl : l.length = 32) (hr : r.length = 32) (hK : WW w 1 ks) (hz0 : 1 < w.heap.size) (hz : -9223372036854775808 ≤ z ∧ z ≤ 9223372036854775807) :
    Calls Tryd.prog 87 #[.agg #[.int .i64 z], dv l, dv r] w fun e w' => e = .returned (dv (nodeD z l r)) ∧ Below w.heap.size w w' := by
  have HK : Hid (WW w 1 ks) := hK
  have hdl := nodeD_length z l r
  obtain ⟨d, HD⟩ : ∃ d, Hid (nodeD z l r = d) := ⟨_, rfl⟩
  rw [HD.out] at hdl ⊢
  have HDL : Hid (d.length = 32) := hdl
  have HL : Hid (l.length = 32) := hl
  have HR : Hid (r.length = 32) := hr
  clear hK hdl hl hr
  unfold dv
  obtain ⟨cl, HCL⟩ : ∃ c, Hid ((cellsOf l).toArray = c) := ⟨_, rfl⟩
  obtain ⟨cr, HCR⟩ : ∃ c, Hid ((cellsOf r).toArray = c) := ⟨_, rfl⟩
  rw [HCL.out, HCR.out]
  go_enter Tryd.func87, Tryd.ntmps87
  go_upto_region 1 with fail
  obtain ⟨W0, HW0⟩ : ∃ W, Hid (W = (((w.alloc (Obj.cells #[Value.int IntKind.i64 z] 26)).alloc (Obj.cells cl 46)).alloc (Obj.cells cr 46)).alloc (Obj.cells #[Value.int IntKind.u8 0, Value.int IntKind.u8 0, Value.int IntKind.u8 0, Value.int IntKind.u8 0, Value.int IntKind.u8 0, Value.int IntKind.u8 0, Value.int IntKind.u8 0, Value.int IntKind.u8 0, Value.int IntKind.u8 0, Value.int IntKind.u8 0, Value.int IntKind.u8 0, Value.int IntKind.u8 0, Value.int IntKind.u8 0, Value.int IntKind.u8 0, Value.int IntKind.u8 0, Value.int IntKind.u8 0, Value.int IntKind.u8 0, Value.int IntKind.u8 0, Value.int IntKind.u8 0, Value.int IntKind.u8 0, Value.int IntKind.u8 0, Value.int IntKind.u8 0, Value.int IntKind.u8 0, Value.int IntKind.u8 0, Value.int IntKind.u8 0, Value.int IntKind.u8 0, Value.int IntKind.u8 0, Value.int IntKind.u8 0, Value.int IntKind.u8 0, Value.int IntKind.u8 0, Value.int IntKind.u8 0, Value.int IntKind.u8 0] 46)) := ⟨_, rfl⟩
  have HF := frame4 w (Obj.cells #[Value.int IntKind.i64 z] 26) (Obj.cells cl 46) (Obj.cells cr 46) #[Value.int IntKind.u8 0, Value.int IntKind.u8 0, Value.int IntKind.u8 0, Value.int IntKind.u8 0, Value.int IntKind.u8 0, Value.int IntKind.u8 0, Value.int IntKind.u8 0, Value.int IntKind.u8 0, Value.int IntKind.u8 0, Value.int IntKind.u8 0, Value.int IntKind.u8 0, Value.int IntKind.u8 0, Value.int IntKind.u8 0, Value.int IntKind.u8 0, Value.int IntKind.u8 0, Value.int IntKind.u8 0, Value.int IntKind.u8 0, Value.int IntKind.u8 0, Value.int IntKind.u8 0, Value.int IntKind.u8 0, Value.int IntKind.u8 0, Value.int IntKind.u8 0, Value.int IntKind.u8 0, Value.int IntKind.u8 0, Value.int IntKind.u8 0, Value.int IntKind.u8 0, Value.int IntKind.u8 0, Value.int IntKind.u8 0, Value.int IntKind.u8 0, Value.int IntKind.u8 0, Value.int IntKind.u8 0, Value.int IntKind.u8 0] 46 W0 HW0.out
  rw [← HW0.out]
  have HFH : Hid _ := HF
  clear HF HW0
  have HBl : Hid (Bytes W0 (some ⟨w.heap.size + 1, 0, none⟩) 32 l) := bytes32 (by rw [HCL.out]; exact HFH.out.2.1) HL.out
  have HBr : Hid (Bytes W0 (some ⟨w.heap.size + 2, 0, none⟩) 32 r) := bytes32 (by rw [HCR.out]; exact HFH.out.2.2.1) HR.out
  have HO1 : Hid ((W0.alloc (.cells #[.int .u8 ((1 : UInt8).toNat : Int)] 5)).ownsRow W0.heap.size 5 1 (.slice (some ⟨W0.heap.size, 0, none⟩) 1 1) 1 (cellsOf [1])) := own_one W0 1
  go_wp2_with (at_builtin; refine wpList_append_bytes _ rfl (.tmp 8) (.tmp 9) rfl W0.heap.size _ 1 [1] rfl HO1.out (by simp) (some ⟨w.heap.size + 1, 0, none⟩) 32 32 l rfl (bytes_kept HBl.out (bel_alloc W0 _) (Nat.le_refl _)) (fun h => by cases h) (by omega) ?_)
  intro v1 w1 hown1 hb1
  have HB1 : Hid (Below W0.heap.size W0 w1) := (bel_alloc W0 _).trans hb1
  have hl1 : l.length + 1 = 33 := by have := HL.out; omega
  rw [hl1] at hown1
  have HOW : Hid _ := hown1
  have hz1 := HB1.out.size
  have c0' : W0.cell? ⟨w.heap.size, 0, none⟩ = some (.int .i64 z) := by rw [cell_of_row W0 _ 0 _ _ _ HFH.out.1]; rfl
  have c0 : w1.drew.cell? ⟨w.heap.size, 0, none⟩ = some (.int .i64 z) := bel_cell2 (Below.drew HB1.out) (Nat.le_refl _) c0'
  have HC0 : Hid _ := c0'
  clear c0' hown1 hb1 HO1 hl1
  go_wp2_with fail
  refine wp_region_held_drew (S := fun w' => w'.cell? ⟨w.heap.size, 0, none⟩ = some (.int .i64 z)) (by kernel_rfl) c0 (fun hS => ?_)
  refine wpAnyH_take (i := 0) (v := ?_) rfl (by kernel_rfl) (by kernel_rfl) (by kernel_rfl) (fun _ _ _ h => h) (Or.inl ⟨by rfl, ?_⟩) (by assumption) ?_
  rotate_left
  · (intro w hSw; (try dsimp only at hSw); go_simp; try with_reducible rfl)
  simp only [Act.put, List.getElem_toArray, List.getElem_cons_zero, List.setIfInBounds_toArray, List.set_cons_zero, List.set_cons_succ]
  refine wpAnyH_take (i := 1) (v := ?_) rfl (by kernel_rfl) (by kernel_rfl) (by kernel_rfl) (fun _ _ _ h => h) (Or.inl ⟨by rfl, ?_⟩) (by assumption) ?_
  rotate_left
  · (intro w hSw; (try dsimp only at hSw); go_simp; try with_reducible rfl)
  simp only [Act.put, List.getElem_toArray, List.getElem_cons_zero, List.getElem_cons_succ, List.setIfInBounds_toArray, List.set_cons_zero, List.set_cons_succ]
  refine wpAnyH_take (i := 3) (v := ?_) rfl (by kernel_rfl) (by kernel_rfl) (by kernel_rfl) (fun _ _ _ h => h) (Or.inl ⟨by rfl, ?_⟩) (by assumption) ?_
  rotate_left
  · (intro w hSw; (try dsimp only at hSw); go_simp; try with_reducible rfl)
  simp only [Act.put, List.getElem_toArray, List.getElem_cons_zero, List.getElem_cons_succ, List.setIfInBounds_toArray, List.set_cons_zero, List.set_cons_succ]
  refine wpAnyH_take (i := 4) (v := ?_) rfl (by kernel_rfl) (by kernel_rfl) (by kernel_rfl) (fun _ _ _ h => h) (Or.inl ⟨by rfl, ?_⟩) (by assumption) ?_
  rotate_left
  · (intro w hSw; (try dsimp only at hSw); go_simp; try with_reducible rfl)
  simp only [Act.put, List.getElem_toArray, List.getElem_cons_zero, List.getElem_cons_succ, List.setIfInBounds_toArray, List.set_cons_zero, List.set_cons_succ]
  refine wpAnyH_ready (rs := [2]) (by kernel_rfl) (by simp) ?_
  refine AllReadyH.cons rfl (fun K hK => ?_) AllReadyH.nil
  refine step_append_bytes _ rfl (.tmp 11) (.tmp 12) rfl W0.heap.size _ 33 (1 :: l) rfl (own_drew HOW.out) hz1 (some ⟨w.heap.size + 1 + 1, 0, none⟩) 32 32 r rfl (bytes_kept HBr.out (Below.drew HB1.out) (Nat.le_refl _)) (fun h => by cases h) (by omega) ?_
  intro v2 w2 hown2 hb2
  have HB2 : Hid (Below W0.heap.size W0 w2) := (Below.drew HB1.out).trans hb2
  have hz2 := HB2.out.size
  have hl2 : ((1 :: l) ++ r).length = 65 := by have := HL.out; have := HR.out; simp; omega
  have HCK : Hid _ := kept_own v2 ((1 :: l) ++ r).length ((1 :: l) ++ r) z w2 W0.heap.size hown2 (by rw [hl2]; omega) (HK.out.below (HFH.out.2.2.2.2.1.trans (HB2.out.mono (by rw [HFH.out.2.2.2.2.2]; omega))) hz0) (by rw [HFH.out.2.2.2.2.2] at hz2; omega) hz
  rw [show keptZ z ((1 :: l) ++ r) = d from by rw [← HD.out, nodeD]; rfl] at HCK
  refine hK.out _ _ ?_ (fun hHeld2 => ?_)
  · exact bel_cell2 HB2.out (Nat.le_refl _) HC0.out
  clear hK K hown2 hb2 hl2
  simp only [Act.put, List.getElem_toArray, List.getElem_cons_zero, List.getElem_cons_succ, List.setIfInBounds_toArray, List.set_cons_zero, List.set_cons_succ]
  refine wpAnyH_ready (rs := [5]) (by kernel_rfl) (by simp) ?_
  refine AllReadyH.cons rfl (fun K hK => ?_) AllReadyH.nil
  go_simp
  refine Calls.mono HCK.out ?_
  rintro e w3 ⟨rfl, hb3⟩
  have HB3 : Hid (Below W0.heap.size W0 w3) := HB2.out.trans (hb3.mono hz2)
  have hres : w3.heap[w.heap.size + 1 + 1 + 1]? = some (.cells #[Value.int IntKind.u8 0, Value.int IntKind.u8 0, Value.int IntKind.u8 0, Value.int IntKind.u8 0, Value.int IntKind.u8 0, Value.int IntKind.u8 0, Value.int IntKind.u8 0, Value.int IntKind.u8 0, Value.int IntKind.u8 0, Value.int IntKind.u8 0, Value.int IntKind.u8 0, Value.int IntKind.u8 0, Value.int IntKind.u8 0, Value.int IntKind.u8 0, Value.int IntKind.u8 0, Value.int IntKind.u8 0, Value.int IntKind.u8 0, Value.int IntKind.u8 0, Value.int IntKind.u8 0, Value.int IntKind.u8 0, Value.int IntKind.u8 0, Value.int IntKind.u8 0, Value.int IntKind.u8 0, Value.int IntKind.u8 0, Value.int IntKind.u8 0, Value.int IntKind.u8 0, Value.int IntKind.u8 0, Value.int IntKind.u8 0, Value.int IntKind.u8 0, Value.int IntKind.u8 0, Value.int IntKind.u8 0, Value.int IntKind.u8 0] 46 (0, 0)) := by
    rw [HB3.out.block _ (by rw [HFH.out.2.2.2.2.2]; omega)]; exact HFH.out.2.2.2.1
  go_wp2_with fail
  refine hK.out _ _ ?_ (fun hHeld2 => ?_)
  · exact bel_cell2 HB3.out (Nat.le_refl _) HC0.out
  clear hK K hb3 HCK
  refine wpAnyH_ready (rs := [6]) (by kernel_rfl) (by simp) ?_
  refine AllReadyH.cons rfl (fun K hK => ?_) AllReadyH.nil
  rw [if_pos (by rfl)]
  refine wp_store_row 46 (.tmp 6) (.tmp 16) rfl (w.heap.size + 1 + 1 + 1) (cellsOf d).toArray rfl rfl 46 _ hres (by rw [size24, dig_size HDL.out]) (by rw [dig_size HDL.out]; rfl) (cells_all _) ?_
  refine hK.out _ _ ?_ (fun hHeld2 => ?_)
  · exact cell_row_far (bel_cell2 HB3.out (Nat.le_refl _) HC0.out) (show w.heap.size ≠ w.heap.size + 1 + 1 + 1 by omega)
  clear hK K
  refine wpAnyH_done (by kernel_rfl) ?_ _
  have HRES : Hid _ := hres
  clear hres hz2 hz0 hz hz1
  go_wp2_with fail
  refine bodyPost_ret (results_cell_row rfl _ _ (w.heap.size + 1 + 1 + 1) 46 (cellsOf d).toArray (0, 0) _ rfl (setRow_heap _ _ _ _ _ _ HRES.out) Tryd.underlying46 rfl (by rw [size24, dig_size HDL.out])) rfl ?_
  exact ⟨rfl, below_row (HFH.out.2.2.2.2.1.trans (HB3.out.mono (by rw [HFH.out.2.2.2.2.2]; omega))) (by omega) _⟩
end Go.Proofs.YtecacjddggljgaaDoor.Sm
namespace Go.Proofs.YtecacjddggljgaaDoor.Sm
open Go.RowKit
/-! ### the shape -/
theorem bitLen_bounds : ∀ (x : Nat), x ≠ 0 → x < 2 ^ 64 → 1 ≤ Lib.bitLen x ∧ 2 ^ (Lib.bitLen x - 1) ≤ x ∧ x < 2 ^ Lib.bitLen x := by
  intro x
  induction x using Nat.strongRecOn with
  | ind x ih =>
    intro h0 h
    rw [Lib.bitLen_half x h0 h]
    by_cases h1 : x / 2 = 0
    · have : x = 1 := by omega
      subst this
      decide
    · obtain ⟨a, b, c⟩ := ih (x / 2) (by omega) h1 (by omega)
      generalize Lib.bitLen (x / 2) = k at *
      obtain ⟨j, rfl⟩ : ∃ j, k = j + 1 := ⟨k - 1, by omega⟩
      rw [Nat.add_sub_cancel] at b
      rw [show 1 + (j + 1) - 1 = j + 1 by omega, show 1 + (j + 1) = j + 1 + 1 by omega, Nat.pow_succ, Nat.pow_succ]
      rw [Nat.pow_succ] at c
      omega
/-- The greatest power of two below n. -/
def halfN (n : Nat) : Nat := 2 ^ (Lib.bitLen (n - 1) - 1)
theorem halfN_spec (n : Nat) (h2 : 2 ≤ n) (hn : n ≤ 9223372036854775807) : 1 ≤ halfN n ∧ halfN n < n ∧ n ≤ 2 * halfN n ∧ Lib.bitLen (n - 1) ≤ 63 ∧ 1 ≤ Lib.bitLen (n - 1) := by
  obtain ⟨a, b, c⟩ := bitLen_bounds (n - 1) (by omega) (by omega)
  have d := Lib.bitLen_le (n - 1) 63 (by omega) (by omega)
  unfold halfN
  generalize Lib.bitLen (n - 1) = k at *
  obtain ⟨j, rfl⟩ : ∃ j, k = j + 1 := ⟨k - 1, by omega⟩
  rw [Nat.add_sub_cancel] at *
  rw [Nat.pow_succ] at c
  have := Nat.two_pow_pos j
  omega
/-! ### math/bits.Len -/
theorem tab_at (y : Int) (h : y.toNat < Lib.len8tab.size) (h0 : 0 ≤ y) (h1 : y < 256) : ((Lib.len8tab[y.toNat]'h).toNat : Int) = (Lib.bitLen y.toNat : Int) := by
  rw [← Lib.len8_of y h0 (by omega), Lib.len8, ByteArray.getElem?_lt' _ _ h, Option.getD_some]
theorem wrap64_small (n : Int) (h0 : 0 ≤ n) (h1 : n ≤ 1000) : wrap64 n = n := by
  unfold wrap64
  omega
theorem len_way (k p : Nat) (x y : Int) (h : y.toNat < Lib.len8tab.size) (h0 : 0 ≤ y) (h1 : y < 256) (hp : 2 ^ k = p) (hk : k ≤ 64) (hx0 : 0 ≤ x) (hx1 : x ≤ 18446744073709551615) (hpx : (p : Int) ≤ x)
    (hy : y.toNat = x.toNat / p) : wrap64 ((k : Int) + wrap64 ((Lib.len8tab[y.toNat]'h).toNat : Int)) = (Lib.bitLen x.toNat : Int) := by
  have hb := Lib.bitLen_le8' y h0 (by omega)
  have hin := wrap64_small (Lib.bitLen y.toNat : Int) (by omega) (by omega)
  rw [tab_at y h h0 h1, hin, wrap64_small _ (by omega) (by omega), Lib.bitLen_shift k x.toNat (by omega) (by omega), hp, hy]
  omega
theorem len_way0 (x : Int) (h : x.toNat < Lib.len8tab.size) (h0 : 0 ≤ x) (h1 : x < 256) : wrap64 (wrap64 ((Lib.len8tab[x.toNat]'h).toNat : Int)) = (Lib.bitLen x.toNat : Int) := by
  have hb := Lib.bitLen_le8' x h0 (by omega)
  have hin := wrap64_small (Lib.bitLen x.toNat : Int) (by omega) (by omega)
  rw [tab_at x h h0 h1, hin, hin]
theorem ret_i64 {a b : Int} (h : a = b) : Ending.returned (.int .i64 a) = .returned (.int .i64 b) := by rw [h]
set_option maxHeartbeats 1000000 in
set_option maxRecDepth 100000 in
theorem len64_any (x : Int) (w : World) (h0 : 0 ≤ x) (h1 : x ≤ 18446744073709551615) :
    Calls Tryd.prog 133 #[.int .u64 x] w fun e w' => e = .returned (.int .i64 (Lib.bitLen x.toNat)) ∧ w' = w := by
  have hs8 := Lib.len8tab_size
  go_enter Tryd.func133, Tryd.ntmps133
  go_wp2
  all_goals go_ret
  · exact ⟨ret_i64 (len_way 56 72057594037927936 x _ _ (by omega) (by omega) (by decide) (by omega) h0 h1 (by omega) (by omega)), rfl⟩
  · exact ⟨ret_i64 (len_way 48 281474976710656 x _ _ (by omega) (by omega) (by decide) (by omega) h0 h1 (by omega) (by omega)), rfl⟩
  · exact ⟨ret_i64 (len_way 40 1099511627776 x _ _ (by omega) (by omega) (by decide) (by omega) h0 h1 (by omega) (by omega)), rfl⟩
  · exact ⟨ret_i64 (len_way 32 4294967296 x _ _ (by omega) (by omega) (by decide) (by omega) h0 h1 (by omega) (by omega)), rfl⟩
  · exact ⟨ret_i64 (len_way 24 16777216 x _ _ (by omega) (by omega) (by decide) (by omega) h0 h1 (by omega) (by omega)), rfl⟩
  · exact ⟨ret_i64 (len_way 16 65536 x _ _ (by omega) (by omega) (by decide) (by omega) h0 h1 (by omega) (by omega)), rfl⟩
  · exact ⟨ret_i64 (len_way 8 256 x _ _ (by omega) (by omega) (by decide) (by omega) h0 h1 (by omega) (by omega)), rfl⟩
  · exact ⟨ret_i64 (len_way0 x _ h0 (by omega)), rfl⟩
set_option maxHeartbeats 1000000 in
set_option maxRecDepth 100000 in
theorem len_any (x : Nat) (w : World) (h1 : x ≤ 18446744073709551615) :
    Calls Tryd.prog 117 #[.int .u64 (x : Int)] w fun e w' => e = .returned (.int .i64 (Lib.bitLen x)) ∧ w' = w := by
  go_enter Tryd.func117, Tryd.ntmps117
  go_wp2_with fail
  refine (len64_any x w (by omega) (by omega)).mono ?_
  rintro e w' ⟨rfl, rfl⟩
  rw [Int.toNat_natCast]
  go_wp2
  go_ret
  exact ⟨rfl, rfl⟩
end Go.Proofs.YtecacjddggljgaaDoor.Sm
