/-
  What tree.filling's root answers: contracts over this translation. What tree.filling's root answers of leaves that are there: a contract over this translation. What tree.filling's root answers of a part with both: a contract over this translation.
-/
import Derived.Test.YtecacjddggljgaaDoorPartCD
namespace Go.Proofs.YtecacjddggljgaaDoor.Sm
open Go.RowKit
/-- The cells of a filling. -/
def fillC (z : Int) (c d : Nat) (qo : Option Addr) (qn qc : Nat) (po : Option Addr) (pn pc : Nat) : Array Value := #[.int .i64 z, .int .i64 (c : Int), .int .i64 (d : Int), .slice qo qn qc, .slice po pn pc]
theorem fill_cells {w : World} {f : Nat} {z : Int} {c d : Nat} {qo : Option Addr} {qn qc : Nat} {po : Option Addr} {pn pc : Nat} (h : w.heap[f]? = some (.cells (fillC z c d qo qn qc po pn pc) 126 (0, 0))) :
    w.cell? ⟨f, 0, none⟩ = some (.int .i64 z) ∧ w.cell? ⟨f, 1, none⟩ = some (.int .i64 (c : Int)) ∧ w.cell? ⟨f, 2, none⟩ = some (.int .i64 (d : Int)) ∧ w.cell? ⟨f, 3, none⟩ = some (.slice qo qn qc) ∧ w.cell? ⟨f, 4, none⟩ = some (.slice po pn pc) :=
  ⟨by rw [cell_of_row _ _ 0 _ _ _ h]; rfl, by rw [cell_of_row _ _ 1 _ _ _ h]; rfl, by rw [cell_of_row _ _ 2 _ _ _ h]; rfl, by rw [cell_of_row _ _ 3 _ _ _ h]; rfl, by rw [cell_of_row _ _ 4 _ _ _ h]; rfl⟩
theorem set_path {w : World} {f : Nat} {z : Int} {c d : Nat} {qo : Option Addr} {qn qc : Nat} {po : Option Addr} {pn pc : Nat} (h : w.heap[f]? = some (.cells (fillC z c d qo qn qc po pn pc) 126 (0, 0))) (po' : Option Addr) (pn' pc' : Nat) :
    (w.setCell ⟨f, 4, none⟩ (.slice po' pn' pc')).heap[f]? = some (.cells (fillC z c d qo qn qc po' pn' pc') 126 (0, 0)) ∧ Chg f w (w.setCell ⟨f, 4, none⟩ (.slice po' pn' pc')) := by
  refine ⟨?_, rfl, rfl, rfl, by unfold World.setCell; simp, fun q _ hq => ?_⟩
  · unfold World.setCell
    dsimp only
    rw [Array.getElem?_modify, if_pos rfl, h]
    rfl
  · unfold World.setCell
    dsimp only
    rw [Array.getElem?_modify, if_neg (by omega)]
theorem chg_of_below {w w' : World} {B f : Nat} (h : Below B w w') (hB : w.heap.size ≤ B) : Chg f w w' := (Chg.refl f w).bel h hB
/-- A result's row that is written last. -/
theorem chg_row_new {u w : World} {f g : Nat} (h : Chg f u w) (cs : Array Value) (hg : u.heap.size ≤ g) : Chg f u (w.setRow g cs) :=
  ⟨h.os, h.tape, h.output, Nat.le_trans h.size (by have := ((Chg.refl g w).row cs).size; exact this), fun q hq hne => by
    rw [((Chg.refl g w).row cs).block q (Nat.lt_of_lt_of_le hq h.size) (by omega)]
    exact h.block q hq hne⟩
set_option maxHeartbeats 4000000 in
set_option maxRecDepth 100000 in
theorem fill_apart (a b c d : Nat) (z : Int) (qo : Option Addr) (qn qc f pb po pn pc : Nat) (x : List UInt8) (w : World) (h1 : b ≤ c ∨ d ≤ a) (hf : w.heap[f]? = some (.cells (fillC z c d qo qn qc (some ⟨pb, po, none⟩) pn pc) 126 (0, 0))) (hp : 0 < pn) (hpc : pn ≤ pc)
    (hx : w.rangeAt pb po (cellsOf x)) (hxl : x.length = 32) (nx : Option Addr) (hnx : (if pc = 1 then some (⟨pb, po, none⟩ : Addr) else some ⟨pb, po + 32, none⟩) = nx) :
    Calls Tryd.prog 79 #[.pointer (some ⟨f, 0, none⟩), sv a b] w fun e w' => e = .returned (dv x) ∧ w'.heap[f]? = some (.cells (fillC z c d qo qn qc nx (pn - 1) (pc - 1)) 126 (0, 0)) ∧ Chg f w w' := by
  have HNX : Hid ((if pc = 1 then some (⟨pb, po, none⟩ : Addr) else some ⟨pb, po + 32, none⟩) = nx) := hnx
  clear hnx
  have HA : Hid (∀ W, Calls Tryd.prog 105 #[.agg #[.int .i64 (a : Int), .int .i64 (b : Int)], .agg #[.int .i64 (c : Int), .int .i64 (d : Int)]] W fun e w' => e = .returned (.bool true) ∧ Below W.heap.size W w') := fun W => by
    have h := apart_any a b c d W
    rw [decide_eq_true h1] at h
    exact h
  have HFW : Hid _ := hf
  have HX : Hid (w.rangeAt pb po (cellsOf x)) := hx
  have HXL : Hid (x.length = 32) := hxl
  have HFL : Hid (f < w.heap.size) := (Array.getElem?_eq_some_iff.1 hf).1
  clear h1 hf hx hxl
  unfold sv
  go_enter Tryd.func79, Tryd.ntmps79
  go_upto_region 1 with fail
  have HF0 := frame2 w (Obj.cells #[.int .i64 (a : Int), .int .i64 (b : Int)] 120) #[Value.int IntKind.u8 0, Value.int IntKind.u8 0, Value.int IntKind.u8 0, Value.int IntKind.u8 0, Value.int IntKind.u8 0, Value.int IntKind.u8 0, Value.int IntKind.u8 0, Value.int IntKind.u8 0, Value.int IntKind.u8 0, Value.int IntKind.u8 0, Value.int IntKind.u8 0, Value.int IntKind.u8 0, Value.int IntKind.u8 0, Value.int IntKind.u8 0, Value.int IntKind.u8 0, Value.int IntKind.u8 0, Value.int IntKind.u8 0, Value.int IntKind.u8 0, Value.int IntKind.u8 0, Value.int IntKind.u8 0, Value.int IntKind.u8 0, Value.int IntKind.u8 0, Value.int IntKind.u8 0, Value.int IntKind.u8 0, Value.int IntKind.u8 0, Value.int IntKind.u8 0, Value.int IntKind.u8 0, Value.int IntKind.u8 0, Value.int IntKind.u8 0, Value.int IntKind.u8 0, Value.int IntKind.u8 0, Value.int IntKind.u8 0] 46
  obtain ⟨W0, HW0⟩ : ∃ W, Hid ((w.alloc (Obj.cells #[.int .i64 (a : Int), .int .i64 (b : Int)] 120)).alloc (Obj.cells #[Value.int IntKind.u8 0, Value.int IntKind.u8 0, Value.int IntKind.u8 0, Value.int IntKind.u8 0, Value.int IntKind.u8 0, Value.int IntKind.u8 0, Value.int IntKind.u8 0, Value.int IntKind.u8 0, Value.int IntKind.u8 0, Value.int IntKind.u8 0, Value.int IntKind.u8 0, Value.int IntKind.u8 0, Value.int IntKind.u8 0, Value.int IntKind.u8 0, Value.int IntKind.u8 0, Value.int IntKind.u8 0, Value.int IntKind.u8 0, Value.int IntKind.u8 0, Value.int IntKind.u8 0, Value.int IntKind.u8 0, Value.int IntKind.u8 0, Value.int IntKind.u8 0, Value.int IntKind.u8 0, Value.int IntKind.u8 0, Value.int IntKind.u8 0, Value.int IntKind.u8 0, Value.int IntKind.u8 0, Value.int IntKind.u8 0, Value.int IntKind.u8 0, Value.int IntKind.u8 0, Value.int IntKind.u8 0, Value.int IntKind.u8 0] 46) = W) := ⟨_, rfl⟩
  rw [HW0.out] at HF0 ⊢
  have HFH : Hid _ := HF0
  have HFF : Hid (W0.heap[f]? = some (.cells (fillC z c d qo qn qc (some ⟨pb, po, none⟩) pn pc) 126 (0, 0))) := (HF0.2.2.1.block _ HFL.out).trans HFW.out
  clear HF0 HW0
  have HS : Hid (∀ W, Below W0.heap.size W0 W → W.cell? ⟨w.heap.size, 0, none⟩ = some (.int .i64 (a : Int)) ∧ W.cell? ⟨w.heap.size, 1, none⟩ = some (.int .i64 (b : Int)) ∧ W.cell? ⟨f, 1, none⟩ = some (.int .i64 (c : Int)) ∧ W.cell? ⟨f, 2, none⟩ = some (.int .i64 (d : Int))) := fun W hW =>
    ⟨bel_cell2 hW (Nat.le_refl _) (span_row HFH.out.1).1, bel_cell2 hW (Nat.le_refl _) (span_row HFH.out.1).2, bel_cell2 hW (Nat.le_refl _) (fill_cells HFF.out).2.1, bel_cell2 hW (Nat.le_refl _) (fill_cells HFF.out).2.2.1⟩
  refine wp_region_held_drew (S := fun W => W.cell? ⟨w.heap.size, 0, none⟩ = some (.int .i64 (a : Int)) ∧ W.cell? ⟨w.heap.size, 1, none⟩ = some (.int .i64 (b : Int)) ∧ W.cell? ⟨f, 1, none⟩ = some (.int .i64 (c : Int)) ∧ W.cell? ⟨f, 2, none⟩ = some (.int .i64 (d : Int))) (by kernel_rfl) (HS.out _ (Below.drew (Below.refl _ _))) (fun hS => ?_)
  refine wpAnyH_take (i := 0) (v := ?_) rfl (by kernel_rfl) (by kernel_rfl) (by kernel_rfl) (fun _ _ _ h => h) (Or.inl ⟨by rfl, ?_⟩) (by assumption) ?_
  rotate_left
  · (intro w hSw; (try dsimp only at hSw); go_simp; try with_reducible rfl)
  simp only [Act.put, List.getElem_toArray, List.getElem_cons_zero, List.setIfInBounds_toArray, List.set_cons_zero, List.set_cons_succ]
  refine wpAnyH_take (i := 1) (v := ?_) rfl (by kernel_rfl) (by kernel_rfl) (by kernel_rfl) (fun _ _ _ h => h) (Or.inl ⟨by rfl, ?_⟩) (by assumption) ?_
  rotate_left
  · (intro w hSw; (try dsimp only at hSw); go_simp; try with_reducible rfl)
  simp only [Act.put, List.getElem_toArray, List.getElem_cons_zero, List.getElem_cons_succ, List.setIfInBounds_toArray, List.set_cons_zero, List.set_cons_succ]
  refine wpAnyH_take (i := 2) (v := ?_) rfl (by kernel_rfl) (by kernel_rfl) (by kernel_rfl) (fun _ _ _ h => h) (Or.inl ⟨by rfl, ?_⟩) (by assumption) ?_
  rotate_left
  · (intro w hSw; (try dsimp only at hSw); go_simp; try with_reducible rfl)
  simp only [Act.put, List.getElem_toArray, List.getElem_cons_zero, List.getElem_cons_succ, List.setIfInBounds_toArray, List.set_cons_zero, List.set_cons_succ]
  refine wpAnyH_take (i := 3) (v := ?_) rfl (by kernel_rfl) (by kernel_rfl) (by kernel_rfl) (fun _ _ _ h => h) (Or.inl ⟨by rfl, ?_⟩) (by assumption) ?_
  rotate_left
  · (intro w hSw; (try dsimp only at hSw); go_simp; try with_reducible rfl)
  simp only [Act.put, List.getElem_toArray, List.getElem_cons_zero, List.getElem_cons_succ, List.setIfInBounds_toArray, List.set_cons_zero, List.set_cons_succ]
  refine wpAnyH_take (i := 4) (v := ?_) rfl (by kernel_rfl) (by kernel_rfl) (by kernel_rfl) (fun _ _ _ h => h) (Or.inl ⟨by rfl, ?_⟩) (by assumption) ?_
  rotate_left
  · (intro w hSw; (try dsimp only at hSw); go_simp; try with_reducible rfl)
  simp only [Act.put, List.getElem_toArray, List.getElem_cons_zero, List.getElem_cons_succ, List.setIfInBounds_toArray, List.set_cons_zero, List.set_cons_succ]
  refine wpAnyH_ready (rs := [5]) (by kernel_rfl) (by simp) ?_
  refine AllReadyH.cons rfl (fun K hK => ?_) AllReadyH.nil
  go_simp
  refine (HA.out _).mono ?_
  rintro e w1 ⟨rfl, hb1⟩
  have HB1 : Hid (Below W0.heap.size W0 w1) := (Below.drew (Below.refl _ _)).trans hb1
  go_wp2_with fail
  refine hK.out _ _ (HS.out _ HB1.out) (fun hHeld2 => ?_)
  clear hK K hb1
  refine wpAnyH_done (by kernel_rfl) ?_ _
  clear hS hHeld2
  have HF1 : Hid (w1.heap[f]? = some (.cells (fillC z c d qo qn qc (some ⟨pb, po, none⟩) pn pc) 126 (0, 0))) := (HB1.out.block _ (Nat.lt_of_lt_of_le HFL.out HFH.out.2.2.1.size)).trans HFF.out
  obtain ⟨f0, f1, f2, f3, f4⟩ := fill_cells HF1.out
  have HX1 : Hid (w1.rangeAt pb po (cellsOf x)) := range_bel (range_bel HX.out HFH.out.2.2.1 (Nat.le_refl _)) HB1.out (Nat.le_refl _)
  have HID : Hid ((Tryd.prog.info? 46).map (·.size) = some (cellsOf x).length) := by show _ = _; rw [size24, cellsOf_length, HXL.out]
  have hpz : (0 : Int) < (pn : Int) := by omega
  have HN1 : Hid ((w1.alloc (.cells #[Value.int IntKind.u8 0, Value.int IntKind.u8 0, Value.int IntKind.u8 0, Value.int IntKind.u8 0, Value.int IntKind.u8 0, Value.int IntKind.u8 0, Value.int IntKind.u8 0, Value.int IntKind.u8 0, Value.int IntKind.u8 0, Value.int IntKind.u8 0, Value.int IntKind.u8 0, Value.int IntKind.u8 0, Value.int IntKind.u8 0, Value.int IntKind.u8 0, Value.int IntKind.u8 0, Value.int IntKind.u8 0, Value.int IntKind.u8 0, Value.int IntKind.u8 0, Value.int IntKind.u8 0, Value.int IntKind.u8 0, Value.int IntKind.u8 0, Value.int IntKind.u8 0, Value.int IntKind.u8 0, Value.int IntKind.u8 0, Value.int IntKind.u8 0, Value.int IntKind.u8 0, Value.int IntKind.u8 0, Value.int IntKind.u8 0, Value.int IntKind.u8 0, Value.int IntKind.u8 0, Value.int IntKind.u8 0, Value.int IntKind.u8 0] 46)).heap[w1.heap.size]? = some (.cells #[Value.int IntKind.u8 0, Value.int IntKind.u8 0, Value.int IntKind.u8 0, Value.int IntKind.u8 0, Value.int IntKind.u8 0, Value.int IntKind.u8 0, Value.int IntKind.u8 0, Value.int IntKind.u8 0, Value.int IntKind.u8 0, Value.int IntKind.u8 0, Value.int IntKind.u8 0, Value.int IntKind.u8 0, Value.int IntKind.u8 0, Value.int IntKind.u8 0, Value.int IntKind.u8 0, Value.int IntKind.u8 0, Value.int IntKind.u8 0, Value.int IntKind.u8 0, Value.int IntKind.u8 0, Value.int IntKind.u8 0, Value.int IntKind.u8 0, Value.int IntKind.u8 0, Value.int IntKind.u8 0, Value.int IntKind.u8 0, Value.int IntKind.u8 0, Value.int IntKind.u8 0, Value.int IntKind.u8 0, Value.int IntKind.u8 0, Value.int IntKind.u8 0, Value.int IntKind.u8 0, Value.int IntKind.u8 0, Value.int IntKind.u8 0] 46 (0, 0))) := heap_alloc_new w1 _
  go_upto_region 3 with (first | (refine wpList_load_mid rfl 46 (.tmp 20) rfl pb po rfl (cellsOf x) _ HX1.out Tryd.underlying46 rfl HID.out ?_) | (refine wpList_store_row rfl 46 (.tmp 5) (.tmp 21) rfl w1.heap.size (cellsOf x).toArray rfl rfl 46 _ HN1.out (by rw [size24, dig_size HXL.out]) (by rw [dig_size HXL.out]; rfl) (cells_all _) ?_))
  have HR2 := setRow_heap _ _ _ (cellsOf x).toArray _ _ HN1.out
  have HB2 : Below w1.heap.size w1 ((w1.alloc (.cells #[Value.int IntKind.u8 0, Value.int IntKind.u8 0, Value.int IntKind.u8 0, Value.int IntKind.u8 0, Value.int IntKind.u8 0, Value.int IntKind.u8 0, Value.int IntKind.u8 0, Value.int IntKind.u8 0, Value.int IntKind.u8 0, Value.int IntKind.u8 0, Value.int IntKind.u8 0, Value.int IntKind.u8 0, Value.int IntKind.u8 0, Value.int IntKind.u8 0, Value.int IntKind.u8 0, Value.int IntKind.u8 0, Value.int IntKind.u8 0, Value.int IntKind.u8 0, Value.int IntKind.u8 0, Value.int IntKind.u8 0, Value.int IntKind.u8 0, Value.int IntKind.u8 0, Value.int IntKind.u8 0, Value.int IntKind.u8 0, Value.int IntKind.u8 0, Value.int IntKind.u8 0, Value.int IntKind.u8 0, Value.int IntKind.u8 0, Value.int IntKind.u8 0, Value.int IntKind.u8 0, Value.int IntKind.u8 0, Value.int IntKind.u8 0] 46)).setRow w1.heap.size (cellsOf x).toArray) := below_row (bel_alloc w1 _) (Nat.le_refl _) _
  obtain ⟨W2, HW2⟩ : ∃ W, Hid ((w1.alloc (.cells #[Value.int IntKind.u8 0, Value.int IntKind.u8 0, Value.int IntKind.u8 0, Value.int IntKind.u8 0, Value.int IntKind.u8 0, Value.int IntKind.u8 0, Value.int IntKind.u8 0, Value.int IntKind.u8 0, Value.int IntKind.u8 0, Value.int IntKind.u8 0, Value.int IntKind.u8 0, Value.int IntKind.u8 0, Value.int IntKind.u8 0, Value.int IntKind.u8 0, Value.int IntKind.u8 0, Value.int IntKind.u8 0, Value.int IntKind.u8 0, Value.int IntKind.u8 0, Value.int IntKind.u8 0, Value.int IntKind.u8 0, Value.int IntKind.u8 0, Value.int IntKind.u8 0, Value.int IntKind.u8 0, Value.int IntKind.u8 0, Value.int IntKind.u8 0, Value.int IntKind.u8 0, Value.int IntKind.u8 0, Value.int IntKind.u8 0, Value.int IntKind.u8 0, Value.int IntKind.u8 0, Value.int IntKind.u8 0, Value.int IntKind.u8 0] 46)).setRow w1.heap.size (cellsOf x).toArray = W) := ⟨_, rfl⟩
  rw [HW2.out] at HR2 HB2 ⊢
  have HR2 : Hid _ := HR2
  have HB2 : Hid (Below w1.heap.size w1 W2) := HB2
  have HFL1 : Hid (f < w1.heap.size) := (Array.getElem?_eq_some_iff.1 HF1.out).1
  have HF2 : Hid (W2.heap[f]? = some (.cells (fillC z c d qo qn qc (some ⟨pb, po, none⟩) pn pc) 126 (0, 0))) := (HB2.out.block _ HFL1.out).trans HF1.out
  clear HW2 HN1 f0 f1 f2 f3 f4
  obtain ⟨f0, f1, f2, f3, f4⟩ := fill_cells HF2.out
  have z4 := frozen_of_row W2 f 4 _ _ HF2.out
  have hp1 : (1 : Int) ≤ (pn : Int) := by omega
  have hp2 : (pn : Int) ≤ (pc : Int) := by omega
  go_upto_region 4 with fail
  rw [HNX.out]
  obtain ⟨g1, g2⟩ := set_path HF2.out nx (pn - 1) (pc - 1)
  obtain ⟨W3, HW3⟩ : ∃ W, Hid (W2.setCell ⟨f, 4, none⟩ (.slice nx (pn - 1) (pc - 1)) = W) := ⟨_, rfl⟩
  rw [HW3.out] at g1 g2 ⊢
  have HG1 : Hid _ := g1
  have HG2 : Hid (Chg f W2 W3) := g2
  have HX3 : Hid (W3.heap[w1.heap.size]? = some (.cells (cellsOf x).toArray 46 (0, 0))) := (g2.block _ (Array.getElem?_eq_some_iff.1 HR2.out).1 (by have := HFL1.out; omega)).trans HR2.out
  have HZ3 : Hid (W3.heap[w.heap.size + 1]? = some (.cells #[Value.int IntKind.u8 0, Value.int IntKind.u8 0, Value.int IntKind.u8 0, Value.int IntKind.u8 0, Value.int IntKind.u8 0, Value.int IntKind.u8 0, Value.int IntKind.u8 0, Value.int IntKind.u8 0, Value.int IntKind.u8 0, Value.int IntKind.u8 0, Value.int IntKind.u8 0, Value.int IntKind.u8 0, Value.int IntKind.u8 0, Value.int IntKind.u8 0, Value.int IntKind.u8 0, Value.int IntKind.u8 0, Value.int IntKind.u8 0, Value.int IntKind.u8 0, Value.int IntKind.u8 0, Value.int IntKind.u8 0, Value.int IntKind.u8 0, Value.int IntKind.u8 0, Value.int IntKind.u8 0, Value.int IntKind.u8 0, Value.int IntKind.u8 0, Value.int IntKind.u8 0, Value.int IntKind.u8 0, Value.int IntKind.u8 0, Value.int IntKind.u8 0, Value.int IntKind.u8 0, Value.int IntKind.u8 0, Value.int IntKind.u8 0] 46 (0, 0))) := by
    show _ = _
    have h1 := HB1.out.size
    have h2 := HFH.out.2.2.2
    have h3 := HB2.out.size
    rw [g2.block _ (by omega) (by have := HFL.out; omega), HB2.out.block _ (by omega), HB1.out.block _ (by omega)]
    exact HFH.out.2.1
  have HIX : Hid ((Tryd.prog.info? 46).map (·.size) = some (cellsOf x).toArray.size) := by show _ = _; rw [size24, dig_size HXL.out]
  clear g1 g2 HW3 f0 f1 f2 f3 f4 z4 hp hpc hp1 hp2 hpz
  go_wp2_with (first | (refine wpList_load_row rfl 46 (.tmp 5) rfl w1.heap.size rfl 46 (cellsOf x).toArray (0, 0) _ HX3.out Tryd.underlying46 rfl HIX.out ?_) | (refine wpList_store_row rfl 46 (.tmp 4) (.tmp 30) rfl (w.heap.size + 1) (cellsOf x).toArray rfl rfl 46 _ HZ3.out (by rw [size24, dig_size HXL.out]) (by rw [dig_size HXL.out]; rfl) (cells_all _) ?_))
  refine bodyPost_ret (results_cell_row rfl _ _ (w.heap.size + 1) 46 (cellsOf x).toArray (0, 0) _ rfl (setRow_heap _ _ _ _ _ _ HZ3.out) Tryd.underlying46 rfl (by rw [size24, dig_size HXL.out])) rfl ?_
  have hc3 : Chg f w W3 := ((chg_of_below HFH.out.2.2.1 (Nat.le_refl _)).trans ((chg_of_below HB1.out (Nat.le_refl _)).trans (chg_of_below HB2.out (Nat.le_refl _)))).trans HG2.out
  refine ⟨rfl, ?_, chg_row_new hc3 _ (by omega)⟩
  rw [((Chg.refl (w.heap.size + 1) W3).row _).block f (by have := HFL.out; have := hc3.size; omega) (by have := HFL.out; omega)]
  exact HG1.out
end Go.Proofs.YtecacjddggljgaaDoor.Sm
namespace Go.Proofs.YtecacjddggljgaaDoor.Sm
open Go.RowKit
set_option maxHeartbeats 4000000 in
set_option maxRecDepth 100000 in
theorem fill_within (a b c d : Nat) (z : Int) (qb qf qn qc f : Nat) (po : Option Addr) (pn pc : Nat) (r : List UInt8) (w : World) (h1 : ¬ (b ≤ c ∨ d ≤ a)) (h2 : c ≤ a ∧ b ≤ d) (hab : a < b) (hd : d ≤ 9223372036854775807) (hq : d - c ≤ qn) (hqc : qn ≤ qc) (hf : w.heap[f]? = some (.cells (fillC z c d (some ⟨qb, qf, none⟩) qn qc po pn pc) 126 (0, 0))) (hrl : r.length = 32)
    (hR : ∀ W, Below w.heap.size w W → Calls Tryd.prog 63 #[.agg #[.int .i64 z], .slice (some ⟨qb, qf + (a - c), none⟩) (b - c - (a - c)) (qc - (a - c))] W fun e w' => e = .returned (dv r) ∧ Below W.heap.size W w') :
    Calls Tryd.prog 79 #[.pointer (some ⟨f, 0, none⟩), sv a b] w fun e w' => e = .returned (dv r) ∧ w'.heap[f]? = some (.cells (fillC z c d (some ⟨qb, qf, none⟩) qn qc po pn pc) 126 (0, 0)) ∧ Chg f w w' := by
  have HA : Hid (∀ W, Calls Tryd.prog 105 #[.agg #[.int .i64 (a : Int), .int .i64 (b : Int)], .agg #[.int .i64 (c : Int), .int .i64 (d : Int)]] W fun e w' => e = .returned (.bool false) ∧ Below W.heap.size W w') := fun W => by
    have h := apart_any a b c d W
    rw [decide_eq_false h1] at h
    exact h
  have HI : Hid (∀ W, Calls Tryd.prog 106 #[.agg #[.int .i64 (a : Int), .int .i64 (b : Int)], .agg #[.int .i64 (c : Int), .int .i64 (d : Int)]] W fun e w' => e = .returned (.bool true) ∧ Below W.heap.size W w') := fun W => by
    have h := within_any a b c d W
    rw [decide_eq_true h2] at h
    exact h
  have HRC : Hid _ := hR
  have HRL : Hid (r.length = 32) := hrl
  have HFW : Hid _ := hf
  have HFL : Hid (f < w.heap.size) := (Array.getElem?_eq_some_iff.1 hf).1
  have HW1 : Hid (wrap64 ((a : Int) - (c : Int)) = ((a - c : Nat) : Int) ∧ wrap64 ((b : Int) - (c : Int)) = ((b - c : Nat) : Int)) := by show _ ∧ _; unfold wrap64; omega
  obtain ⟨m1, HM1⟩ : ∃ m, Hid (a - c = m) := ⟨_, rfl⟩
  obtain ⟨m2, HM2⟩ : ∃ m, Hid (b - c = m) := ⟨_, rfl⟩
  rw [HM1.out, HM2.out] at HRC HW1
  have HMM : Hid (m1 < m2 ∧ m2 ≤ qc) := by have := HM1.out; have := HM2.out; show _ ∧ _; omega
  obtain ⟨qo, HQO⟩ : ∃ q, Hid (some (⟨qb, qf, none⟩ : Addr) = q) := ⟨_, rfl⟩
  rw [HQO.out] at HFW ⊢
  clear h1 h2 hab hd hq hqc hf hrl hR
  unfold sv
  go_enter Tryd.func79, Tryd.ntmps79
  go_upto_region 1 with fail
  have HF0 := frame2 w (Obj.cells #[.int .i64 (a : Int), .int .i64 (b : Int)] 120) #[Value.int IntKind.u8 0, Value.int IntKind.u8 0, Value.int IntKind.u8 0, Value.int IntKind.u8 0, Value.int IntKind.u8 0, Value.int IntKind.u8 0, Value.int IntKind.u8 0, Value.int IntKind.u8 0, Value.int IntKind.u8 0, Value.int IntKind.u8 0, Value.int IntKind.u8 0, Value.int IntKind.u8 0, Value.int IntKind.u8 0, Value.int IntKind.u8 0, Value.int IntKind.u8 0, Value.int IntKind.u8 0, Value.int IntKind.u8 0, Value.int IntKind.u8 0, Value.int IntKind.u8 0, Value.int IntKind.u8 0, Value.int IntKind.u8 0, Value.int IntKind.u8 0, Value.int IntKind.u8 0, Value.int IntKind.u8 0, Value.int IntKind.u8 0, Value.int IntKind.u8 0, Value.int IntKind.u8 0, Value.int IntKind.u8 0, Value.int IntKind.u8 0, Value.int IntKind.u8 0, Value.int IntKind.u8 0, Value.int IntKind.u8 0] 46
  obtain ⟨W0, HW0⟩ : ∃ W, Hid ((w.alloc (Obj.cells #[.int .i64 (a : Int), .int .i64 (b : Int)] 120)).alloc (Obj.cells #[Value.int IntKind.u8 0, Value.int IntKind.u8 0, Value.int IntKind.u8 0, Value.int IntKind.u8 0, Value.int IntKind.u8 0, Value.int IntKind.u8 0, Value.int IntKind.u8 0, Value.int IntKind.u8 0, Value.int IntKind.u8 0, Value.int IntKind.u8 0, Value.int IntKind.u8 0, Value.int IntKind.u8 0, Value.int IntKind.u8 0, Value.int IntKind.u8 0, Value.int IntKind.u8 0, Value.int IntKind.u8 0, Value.int IntKind.u8 0, Value.int IntKind.u8 0, Value.int IntKind.u8 0, Value.int IntKind.u8 0, Value.int IntKind.u8 0, Value.int IntKind.u8 0, Value.int IntKind.u8 0, Value.int IntKind.u8 0, Value.int IntKind.u8 0, Value.int IntKind.u8 0, Value.int IntKind.u8 0, Value.int IntKind.u8 0, Value.int IntKind.u8 0, Value.int IntKind.u8 0, Value.int IntKind.u8 0, Value.int IntKind.u8 0] 46) = W) := ⟨_, rfl⟩
  rw [HW0.out] at HF0 ⊢
  have HFH : Hid _ := HF0
  have HFF : Hid (W0.heap[f]? = some (.cells (fillC z c d qo qn qc po pn pc) 126 (0, 0))) := (HF0.2.2.1.block _ HFL.out).trans HFW.out
  clear HF0 HW0
  have HS : Hid (∀ W, Below W0.heap.size W0 W → W.cell? ⟨w.heap.size, 0, none⟩ = some (.int .i64 (a : Int)) ∧ W.cell? ⟨w.heap.size, 1, none⟩ = some (.int .i64 (b : Int)) ∧ W.cell? ⟨f, 0, none⟩ = some (.int .i64 z) ∧ W.cell? ⟨f, 1, none⟩ = some (.int .i64 (c : Int)) ∧ W.cell? ⟨f, 2, none⟩ = some (.int .i64 (d : Int)) ∧ W.cell? ⟨f, 3, none⟩ = some (.slice qo qn qc)) := fun W hW =>
    ⟨bel_cell2 hW (Nat.le_refl _) (span_row HFH.out.1).1, bel_cell2 hW (Nat.le_refl _) (span_row HFH.out.1).2, bel_cell2 hW (Nat.le_refl _) (fill_cells HFF.out).1, bel_cell2 hW (Nat.le_refl _) (fill_cells HFF.out).2.1, bel_cell2 hW (Nat.le_refl _) (fill_cells HFF.out).2.2.1, bel_cell2 hW (Nat.le_refl _) (fill_cells HFF.out).2.2.2.1⟩
  refine wp_region_held_drew (S := fun W => W.cell? ⟨w.heap.size, 0, none⟩ = some (.int .i64 (a : Int)) ∧ W.cell? ⟨w.heap.size, 1, none⟩ = some (.int .i64 (b : Int)) ∧ W.cell? ⟨f, 0, none⟩ = some (.int .i64 z) ∧ W.cell? ⟨f, 1, none⟩ = some (.int .i64 (c : Int)) ∧ W.cell? ⟨f, 2, none⟩ = some (.int .i64 (d : Int)) ∧ W.cell? ⟨f, 3, none⟩ = some (.slice qo qn qc)) (by kernel_rfl) (HS.out _ (Below.drew (Below.refl _ _))) (fun hS => ?_)
  refine wpAnyH_take (i := 0) (v := ?_) rfl (by kernel_rfl) (by kernel_rfl) (by kernel_rfl) (fun _ _ _ h => h) (Or.inl ⟨by rfl, ?_⟩) (by assumption) ?_
  rotate_left
  · (intro w hSw; (try dsimp only at hSw); go_simp; try with_reducible rfl)
  simp only [Act.put, List.getElem_toArray, List.getElem_cons_zero, List.setIfInBounds_toArray, List.set_cons_zero, List.set_cons_succ]
  refine wpAnyH_take (i := 1) (v := ?_) rfl (by kernel_rfl) (by kernel_rfl) (by kernel_rfl) (fun _ _ _ h => h) (Or.inl ⟨by rfl, ?_⟩) (by assumption) ?_
  rotate_left
  · (intro w hSw; (try dsimp only at hSw); go_simp; try with_reducible rfl)
  simp only [Act.put, List.getElem_toArray, List.getElem_cons_zero, List.getElem_cons_succ, List.setIfInBounds_toArray, List.set_cons_zero, List.set_cons_succ]
  refine wpAnyH_take (i := 2) (v := ?_) rfl (by kernel_rfl) (by kernel_rfl) (by kernel_rfl) (fun _ _ _ h => h) (Or.inl ⟨by rfl, ?_⟩) (by assumption) ?_
  rotate_left
  · (intro w hSw; (try dsimp only at hSw); go_simp; try with_reducible rfl)
  simp only [Act.put, List.getElem_toArray, List.getElem_cons_zero, List.getElem_cons_succ, List.setIfInBounds_toArray, List.set_cons_zero, List.set_cons_succ]
  refine wpAnyH_take (i := 3) (v := ?_) rfl (by kernel_rfl) (by kernel_rfl) (by kernel_rfl) (fun _ _ _ h => h) (Or.inl ⟨by rfl, ?_⟩) (by assumption) ?_
  rotate_left
  · (intro w hSw; (try dsimp only at hSw); go_simp; try with_reducible rfl)
  simp only [Act.put, List.getElem_toArray, List.getElem_cons_zero, List.getElem_cons_succ, List.setIfInBounds_toArray, List.set_cons_zero, List.set_cons_succ]
  refine wpAnyH_take (i := 4) (v := ?_) rfl (by kernel_rfl) (by kernel_rfl) (by kernel_rfl) (fun _ _ _ h => h) (Or.inl ⟨by rfl, ?_⟩) (by assumption) ?_
  rotate_left
  · (intro w hSw; (try dsimp only at hSw); go_simp; try with_reducible rfl)
  simp only [Act.put, List.getElem_toArray, List.getElem_cons_zero, List.getElem_cons_succ, List.setIfInBounds_toArray, List.set_cons_zero, List.set_cons_succ]
  refine wpAnyH_ready (rs := [5]) (by kernel_rfl) (by simp) ?_
  refine AllReadyH.cons rfl (fun K hK => ?_) AllReadyH.nil
  go_simp
  refine (HA.out _).mono ?_
  rintro e w1 ⟨rfl, hb1⟩
  have HB1 : Hid (Below W0.heap.size W0 w1) := (Below.drew (Below.refl _ _)).trans hb1
  go_wp2_with fail
  refine hK.out _ _ (HS.out _ HB1.out) (fun hHeld2 => ?_)
  clear hK K hb1
  refine wpAnyH_done (by kernel_rfl) ?_ _
  clear hS hHeld2
  go_upto_region 5 with fail
  refine wp_region_held_drew (S := fun W => W.cell? ⟨w.heap.size, 0, none⟩ = some (.int .i64 (a : Int)) ∧ W.cell? ⟨w.heap.size, 1, none⟩ = some (.int .i64 (b : Int)) ∧ W.cell? ⟨f, 0, none⟩ = some (.int .i64 z) ∧ W.cell? ⟨f, 1, none⟩ = some (.int .i64 (c : Int)) ∧ W.cell? ⟨f, 2, none⟩ = some (.int .i64 (d : Int)) ∧ W.cell? ⟨f, 3, none⟩ = some (.slice qo qn qc)) (by kernel_rfl) (HS.out _ (Below.drew HB1.out)) (fun hS => ?_)
  refine wpAnyH_take (i := 0) (v := ?_) rfl (by kernel_rfl) (by kernel_rfl) (by kernel_rfl) (fun _ _ _ h => h) (Or.inl ⟨by rfl, ?_⟩) (by assumption) ?_
  rotate_left
  · (intro w hSw; (try dsimp only at hSw); go_simp; try with_reducible rfl)
  simp only [Act.put, List.getElem_toArray, List.getElem_cons_zero, List.setIfInBounds_toArray, List.set_cons_zero, List.set_cons_succ]
  refine wpAnyH_take (i := 1) (v := ?_) rfl (by kernel_rfl) (by kernel_rfl) (by kernel_rfl) (fun _ _ _ h => h) (Or.inl ⟨by rfl, ?_⟩) (by assumption) ?_
  rotate_left
  · (intro w hSw; (try dsimp only at hSw); go_simp; try with_reducible rfl)
  simp only [Act.put, List.getElem_toArray, List.getElem_cons_zero, List.getElem_cons_succ, List.setIfInBounds_toArray, List.set_cons_zero, List.set_cons_succ]
  refine wpAnyH_take (i := 2) (v := ?_) rfl (by kernel_rfl) (by kernel_rfl) (by kernel_rfl) (fun _ _ _ h => h) (Or.inl ⟨by rfl, ?_⟩) (by assumption) ?_
  rotate_left
  · (intro w hSw; (try dsimp only at hSw); go_simp; try with_reducible rfl)
  simp only [Act.put, List.getElem_toArray, List.getElem_cons_zero, List.getElem_cons_succ, List.setIfInBounds_toArray, List.set_cons_zero, List.set_cons_succ]
  refine wpAnyH_take (i := 3) (v := ?_) rfl (by kernel_rfl) (by kernel_rfl) (by kernel_rfl) (fun _ _ _ h => h) (Or.inl ⟨by rfl, ?_⟩) (by assumption) ?_
  rotate_left
  · (intro w hSw; (try dsimp only at hSw); go_simp; try with_reducible rfl)
  simp only [Act.put, List.getElem_toArray, List.getElem_cons_zero, List.getElem_cons_succ, List.setIfInBounds_toArray, List.set_cons_zero, List.set_cons_succ]
  refine wpAnyH_take (i := 4) (v := ?_) rfl (by kernel_rfl) (by kernel_rfl) (by kernel_rfl) (fun _ _ _ h => h) (Or.inl ⟨by rfl, ?_⟩) (by assumption) ?_
  rotate_left
  · (intro w hSw; (try dsimp only at hSw); go_simp; try with_reducible rfl)
  simp only [Act.put, List.getElem_toArray, List.getElem_cons_zero, List.getElem_cons_succ, List.setIfInBounds_toArray, List.set_cons_zero, List.set_cons_succ]
  refine wpAnyH_ready (rs := [5]) (by kernel_rfl) (by simp) ?_
  refine AllReadyH.cons rfl (fun K hK => ?_) AllReadyH.nil
  go_simp
  refine (HI.out _).mono ?_
  rintro e w2 ⟨rfl, hb2⟩
  have HB2 : Hid (Below W0.heap.size W0 w2) := (Below.drew HB1.out).trans (hb2.mono HB1.out.size)
  go_wp2_with fail
  refine hK.out _ _ (HS.out _ HB2.out) (fun hHeld2 => ?_)
  clear hK K hb2
  refine wpAnyH_done (by kernel_rfl) ?_ _
  clear hS hHeld2
  go_upto_region 6 with fail
  rw [← HQO.out] at HS
  obtain ⟨y5, y6⟩ := HW1.out
  have y7 : IntKind.i64.wrap ((a : Int) - (c : Int)) = (m1 : Int) := (IntWalk.i64_left _).trans y5
  have y8 : IntKind.i64.wrap ((b : Int) - (c : Int)) = (m2 : Int) := (IntWalk.i64_left _).trans y6
  have y1 := zi (Nat.le_of_lt HMM.out.1)
  have y2 := zi HMM.out.2
  have y3 := zl (Nat.lt_of_lt_of_le HMM.out.1 HMM.out.2)
  refine wp_region_held_drew (S := fun W => W.cell? ⟨w.heap.size, 0, none⟩ = some (.int .i64 (a : Int)) ∧ W.cell? ⟨w.heap.size, 1, none⟩ = some (.int .i64 (b : Int)) ∧ W.cell? ⟨f, 0, none⟩ = some (.int .i64 z) ∧ W.cell? ⟨f, 1, none⟩ = some (.int .i64 (c : Int)) ∧ W.cell? ⟨f, 2, none⟩ = some (.int .i64 (d : Int)) ∧ W.cell? ⟨f, 3, none⟩ = some (.slice (some ⟨qb, qf, none⟩) qn qc)) (by kernel_rfl) (HS.out _ (Below.drew HB2.out)) (fun hS => ?_)
  refine wpAnyH_take (i := 0) (v := ?_) rfl (by kernel_rfl) (by kernel_rfl) (by kernel_rfl) (fun _ _ _ h => h) (Or.inl ⟨by rfl, ?_⟩) (by assumption) ?_
  rotate_left
  · (intro w hSw; (try dsimp only at hSw); go_simp; try with_reducible rfl)
  simp only [Act.put, List.getElem_toArray, List.getElem_cons_zero, List.setIfInBounds_toArray, List.set_cons_zero, List.set_cons_succ]
  refine wpAnyH_take (i := 1) (v := ?_) rfl (by kernel_rfl) (by kernel_rfl) (by kernel_rfl) (fun _ _ _ h => h) (Or.inl ⟨by rfl, ?_⟩) (by assumption) ?_
  rotate_left
  · (intro w hSw; (try dsimp only at hSw); go_simp; try with_reducible rfl)
  simp only [Act.put, List.getElem_toArray, List.getElem_cons_zero, List.getElem_cons_succ, List.setIfInBounds_toArray, List.set_cons_zero, List.set_cons_succ]
  refine wpAnyH_take (i := 2) (v := ?_) rfl (by kernel_rfl) (by kernel_rfl) (by kernel_rfl) (fun _ _ _ h => h) (Or.inl ⟨by rfl, ?_⟩) (by assumption) ?_
  rotate_left
  · (intro w hSw; (try dsimp only at hSw); go_simp; try with_reducible rfl)
  simp only [Act.put, List.getElem_toArray, List.getElem_cons_zero, List.getElem_cons_succ, List.setIfInBounds_toArray, List.set_cons_zero, List.set_cons_succ]
  refine wpAnyH_take (i := 3) (v := ?_) rfl (by kernel_rfl) (by kernel_rfl) (by kernel_rfl) (fun _ _ _ h => h) (Or.inl ⟨by rfl, ?_⟩) (by assumption) ?_
  rotate_left
  · (intro w hSw; (try dsimp only at hSw); go_simp; try with_reducible rfl)
  simp only [Act.put, List.getElem_toArray, List.getElem_cons_zero, List.getElem_cons_succ, List.setIfInBounds_toArray, List.set_cons_zero, List.set_cons_succ]
  refine wpAnyH_take (i := 4) (v := ?_) rfl (by kernel_rfl) (by kernel_rfl) (by kernel_rfl) (fun _ _ _ h => h) (Or.inl ⟨by rfl, ?_⟩) (by assumption) ?_
  rotate_left
  · (intro w hSw; (try dsimp only at hSw); go_simp; try with_reducible rfl)
  simp only [Act.put, List.getElem_toArray, List.getElem_cons_zero, List.getElem_cons_succ, List.setIfInBounds_toArray, List.set_cons_zero, List.set_cons_succ]
  refine wpAnyH_take (i := 5) (v := ?_) rfl (by kernel_rfl) (by kernel_rfl) (by kernel_rfl) (fun _ _ _ h => h) (Or.inl ⟨by rfl, ?_⟩) (by assumption) ?_
  rotate_left
  · (intro w hSw; (try dsimp only at hSw); go_simp; try with_reducible rfl)
  simp only [Act.put, List.getElem_toArray, List.getElem_cons_zero, List.getElem_cons_succ, List.setIfInBounds_toArray, List.set_cons_zero, List.set_cons_succ]
  refine wpAnyH_take (i := 6) (v := ?_) rfl (by kernel_rfl) (by kernel_rfl) (by kernel_rfl) (fun _ _ _ h => h) (Or.inl ⟨by rfl, ?_⟩) (by assumption) ?_
  rotate_left
  · (intro w hSw; (try dsimp only at hSw); go_simp; try with_reducible rfl)
  simp only [Act.put, List.getElem_toArray, List.getElem_cons_zero, List.getElem_cons_succ, List.setIfInBounds_toArray, List.set_cons_zero, List.set_cons_succ]
  refine wpAnyH_take (i := 7) (v := ?_) rfl (by kernel_rfl) (by kernel_rfl) (by kernel_rfl) (fun _ _ _ h => h) (Or.inl ⟨by rfl, ?_⟩) (by assumption) ?_
  rotate_left
  · (intro w hSw; (try dsimp only at hSw); go_simp; try with_reducible rfl)
  simp only [Act.put, List.getElem_toArray, List.getElem_cons_zero, List.getElem_cons_succ, List.setIfInBounds_toArray, List.set_cons_zero, List.set_cons_succ]
  refine wpAnyH_take (i := 8) (v := ?_) rfl (by kernel_rfl) (by kernel_rfl) (by kernel_rfl) (fun _ _ _ h => h) (Or.inl ⟨by rfl, ?_⟩) (by assumption) ?_
  rotate_left
  · (intro w hSw; (try dsimp only at hSw); go_simp; try with_reducible rfl)
  simp only [Act.put, List.getElem_toArray, List.getElem_cons_zero, List.getElem_cons_succ, List.setIfInBounds_toArray, List.set_cons_zero, List.set_cons_succ]
  refine wpAnyH_take (i := 9) (v := ?_) rfl (by kernel_rfl) (by kernel_rfl) (by kernel_rfl) (fun _ _ _ h => h) (Or.inl ⟨by rfl, ?_⟩) (by assumption) ?_
  rotate_left
  · (intro w hSw; (try dsimp only at hSw); go_simp; try with_reducible rfl)
  simp only [Act.put, List.getElem_toArray, List.getElem_cons_zero, List.getElem_cons_succ, List.setIfInBounds_toArray, List.set_cons_zero, List.set_cons_succ]
  refine wpAnyH_take (i := 10) (v := ?_) rfl (by kernel_rfl) (by kernel_rfl) (by kernel_rfl) (fun _ _ _ h => h) (Or.inl ⟨by rfl, ?_⟩) (by assumption) ?_
  rotate_left
  · (intro w hSw; (try dsimp only at hSw); go_simp; try with_reducible rfl)
  simp only [Act.put, List.getElem_toArray, List.getElem_cons_zero, List.getElem_cons_succ, List.setIfInBounds_toArray, List.set_cons_zero, List.set_cons_succ]
  refine wpAnyH_take (i := 11) (v := ?_) rfl (by kernel_rfl) (by kernel_rfl) (by kernel_rfl) (fun _ _ _ h => h) (Or.inl ⟨by rfl, ?_⟩) (by assumption) ?_
  rotate_left
  · (intro w hSw; (try dsimp only at hSw); go_simp; try with_reducible rfl)
  simp only [Act.put, List.getElem_toArray, List.getElem_cons_zero, List.getElem_cons_succ, List.setIfInBounds_toArray, List.set_cons_zero, List.set_cons_succ]
  refine wpAnyH_take (i := 12) (v := ?_) rfl (by kernel_rfl) (by kernel_rfl) (by kernel_rfl) (fun _ _ _ h => h) (Or.inl ⟨by rfl, ?_⟩) (by assumption) ?_
  rotate_left
  · (intro w hSw; (try dsimp only at hSw); go_simp; try with_reducible rfl)
  simp only [Act.put, List.getElem_toArray, List.getElem_cons_zero, List.getElem_cons_succ, List.setIfInBounds_toArray, List.set_cons_zero, List.set_cons_succ]
  refine wpAnyH_take (i := 13) (v := ?_) rfl (by kernel_rfl) (by kernel_rfl) (by kernel_rfl) (fun _ _ _ h => h) (Or.inl ⟨by rfl, ?_⟩) (by assumption) ?_
  rotate_left
  · (intro w hSw; (try dsimp only at hSw); go_simp; try with_reducible rfl)
  simp only [Act.put, List.getElem_toArray, List.getElem_cons_zero, List.getElem_cons_succ, List.setIfInBounds_toArray, List.set_cons_zero, List.set_cons_succ]
  refine wpAnyH_take (i := 14) (v := ?_) rfl (by kernel_rfl) (by kernel_rfl) (by kernel_rfl) (fun _ _ _ h => h) (Or.inl ⟨by rfl, ?_⟩) (by assumption) ?_
  rotate_left
  · (intro w hSw; (try dsimp only at hSw); go_simp; try with_reducible rfl)
  simp only [Act.put, List.getElem_toArray, List.getElem_cons_zero, List.getElem_cons_succ, List.setIfInBounds_toArray, List.set_cons_zero, List.set_cons_succ]
  refine wpAnyH_take (i := 15) (v := ?_) rfl (by kernel_rfl) (by kernel_rfl) (by kernel_rfl) (fun _ _ _ h => h) (Or.inl ⟨by rfl, ?_⟩) (by assumption) ?_
  rotate_left
  · (intro w hSw; (try dsimp only at hSw); go_simp; try with_reducible rfl)
  simp only [Act.put, List.getElem_toArray, List.getElem_cons_zero, List.getElem_cons_succ, List.setIfInBounds_toArray, List.set_cons_zero, List.set_cons_succ]
  refine wpAnyH_take (i := 16) (v := ?_) rfl (by kernel_rfl) (by kernel_rfl) (by kernel_rfl) (fun _ _ _ h => h) (Or.inl ⟨by rfl, ?_⟩) (by assumption) ?_
  rotate_left
  · (intro w hSw; (try dsimp only at hSw); go_simp; try with_reducible rfl)
  simp only [Act.put, List.getElem_toArray, List.getElem_cons_zero, List.getElem_cons_succ, List.setIfInBounds_toArray, List.set_cons_zero, List.set_cons_succ]
  refine wpAnyH_take (i := 17) (v := ?_) rfl (by kernel_rfl) (by kernel_rfl) (by kernel_rfl) (fun _ _ _ h => h) (Or.inl ⟨by rfl, ?_⟩) (by assumption) ?_
  rotate_left
  · (intro w hSw; (try dsimp only at hSw); go_simp; try with_reducible rfl)
  simp only [Act.put, List.getElem_toArray, List.getElem_cons_zero, List.getElem_cons_succ, List.setIfInBounds_toArray, List.set_cons_zero, List.set_cons_succ]
  refine wpAnyH_take (i := 18) (v := ?_) rfl (by kernel_rfl) (by kernel_rfl) (by kernel_rfl) (fun _ _ _ h => h) (Or.inl ⟨by rfl, ?_⟩) (by assumption) ?_
  rotate_left
  · (intro w hSw; (try dsimp only at hSw); go_simp; try with_reducible rfl)
  simp only [Act.put, List.getElem_toArray, List.getElem_cons_zero, List.getElem_cons_succ, List.setIfInBounds_toArray, List.set_cons_zero, List.set_cons_succ]
  refine wpAnyH_take (i := 19) (v := ?_) rfl (by kernel_rfl) (by kernel_rfl) (by kernel_rfl) (fun _ _ _ h => h) (Or.inl ⟨by rfl, ?_⟩) (by assumption) ?_
  rotate_left
  · (intro w hSw; (try dsimp only at hSw); go_simp; try with_reducible rfl)
  simp only [Act.put, List.getElem_toArray, List.getElem_cons_zero, List.getElem_cons_succ, List.setIfInBounds_toArray, List.set_cons_zero, List.set_cons_succ]
  refine wpAnyH_take (i := 20) (v := ?_) rfl (by kernel_rfl) (by kernel_rfl) (by kernel_rfl) (fun _ _ _ h => h) (Or.inl ⟨by rfl, ?_⟩) (by assumption) ?_
  rotate_left
  · (intro w hSw; (try dsimp only at hSw); go_simp; try with_reducible rfl)
  simp only [Act.put, List.getElem_toArray, List.getElem_cons_zero, List.getElem_cons_succ, List.setIfInBounds_toArray, List.set_cons_zero, List.set_cons_succ]
  refine wpAnyH_take (i := 21) (v := ?_) rfl (by kernel_rfl) (by kernel_rfl) (by kernel_rfl) (fun _ _ _ h => h) (Or.inl ⟨by rfl, ?_⟩) (by assumption) ?_
  rotate_left
  · (intro w hSw; (try dsimp only at hSw); go_simp; try with_reducible rfl)
  simp only [Act.put, List.getElem_toArray, List.getElem_cons_zero, List.getElem_cons_succ, List.setIfInBounds_toArray, List.set_cons_zero, List.set_cons_succ]
  refine wpAnyH_take (i := 22) (v := ?_) rfl (by kernel_rfl) (by kernel_rfl) (by kernel_rfl) (fun _ _ _ h => h) (Or.inl ⟨by rfl, ?_⟩) (by assumption) ?_
  rotate_left
  · (intro w hSw; (try dsimp only at hSw); go_simp; try with_reducible rfl)
  simp only [Act.put, List.getElem_toArray, List.getElem_cons_zero, List.getElem_cons_succ, List.setIfInBounds_toArray, List.set_cons_zero, List.set_cons_succ]
  refine wpAnyH_take (i := 23) (v := ?_) rfl (by kernel_rfl) (by kernel_rfl) (by kernel_rfl) (fun _ _ _ h => h) (Or.inl ⟨by rfl, ?_⟩) (by assumption) ?_
  rotate_left
  · (intro w hSw; (try dsimp only at hSw); go_simp; try with_reducible rfl)
  simp only [Act.put, List.getElem_toArray, List.getElem_cons_zero, List.getElem_cons_succ, List.setIfInBounds_toArray, List.set_cons_zero, List.set_cons_succ]
  refine wpAnyH_take (i := 24) (v := ?_) rfl (by kernel_rfl) (by kernel_rfl) (by kernel_rfl) (fun _ _ _ h => h) (Or.inl ⟨by rfl, ?_⟩) (by assumption) ?_
  rotate_left
  · (intro w hSw; (try dsimp only at hSw); go_simp; try with_reducible rfl)
  simp only [Act.put, List.getElem_toArray, List.getElem_cons_zero, List.getElem_cons_succ, List.setIfInBounds_toArray, List.set_cons_zero, List.set_cons_succ]
  refine wpAnyH_ready (rs := [25]) (by kernel_rfl) (by simp) ?_
  refine AllReadyH.cons rfl (fun K hK => ?_) AllReadyH.nil
  go_simp
  rw [if_neg (show ¬ qc = m1 by omega)]
  refine (HRC.out _ ?_).mono ?_
  · exact HFH.out.2.2.1.trans ((Below.drew HB2.out).mono (by rw [HFH.out.2.2.2]; omega))
  rintro e w3 ⟨rfl, hb3⟩
  have HB3 : Hid (Below W0.heap.size W0 w3) := (Below.drew HB2.out).trans (hb3.mono HB2.out.size)
  have HZ3 : Hid (w3.heap[w.heap.size + 1]? = some (.cells #[Value.int IntKind.u8 0, Value.int IntKind.u8 0, Value.int IntKind.u8 0, Value.int IntKind.u8 0, Value.int IntKind.u8 0, Value.int IntKind.u8 0, Value.int IntKind.u8 0, Value.int IntKind.u8 0, Value.int IntKind.u8 0, Value.int IntKind.u8 0, Value.int IntKind.u8 0, Value.int IntKind.u8 0, Value.int IntKind.u8 0, Value.int IntKind.u8 0, Value.int IntKind.u8 0, Value.int IntKind.u8 0, Value.int IntKind.u8 0, Value.int IntKind.u8 0, Value.int IntKind.u8 0, Value.int IntKind.u8 0, Value.int IntKind.u8 0, Value.int IntKind.u8 0, Value.int IntKind.u8 0, Value.int IntKind.u8 0, Value.int IntKind.u8 0, Value.int IntKind.u8 0, Value.int IntKind.u8 0, Value.int IntKind.u8 0, Value.int IntKind.u8 0, Value.int IntKind.u8 0, Value.int IntKind.u8 0, Value.int IntKind.u8 0] 46 (0, 0))) := (HB3.out.block _ (by rw [HFH.out.2.2.2]; omega)).trans HFH.out.2.1
  unfold dv
  go_wp2_with fail
  refine hK.out _ _ (HS.out _ HB3.out) (fun hHeld2 => ?_)
  clear hK K hb3
  refine wpAnyH_ready (rs := [26]) (by kernel_rfl) (by simp) ?_
  refine AllReadyH.cons rfl (fun K hK => ?_) AllReadyH.nil
  rw [if_pos (by rfl)]
  refine wp_store_row 46 (.tmp 4) (.tmp 62) rfl (w.heap.size + 1) (cellsOf r).toArray rfl rfl 46 _ HZ3.out (by rw [size24, dig_size HRL.out]) (by rw [dig_size HRL.out]; rfl) (cells_all _) ?_
  refine hK.out _ _ ?_ (fun hHeld2 => ?_)
  · obtain ⟨q0, q1, q2, q3, q4, q5⟩ := HS.out _ HB3.out
    have e1 : f ≠ w.heap.size + 1 := by have := HFL.out; omega
    exact ⟨cell_row_far q0 (show w.heap.size ≠ w.heap.size + 1 by omega), cell_row_far q1 (show w.heap.size ≠ w.heap.size + 1 by omega), cell_row_far q2 e1, cell_row_far q3 e1, cell_row_far q4 e1, cell_row_far q5 e1⟩
  clear hK K
  refine wpAnyH_done (by kernel_rfl) ?_ _
  clear hS hHeld2
  go_wp2_with fail
  refine bodyPost_ret (results_cell_row rfl _ _ (w.heap.size + 1) 46 (cellsOf r).toArray (0, 0) _ rfl (setRow_heap _ _ _ _ _ _ HZ3.out) Tryd.underlying46 rfl (by rw [size24, dig_size HRL.out])) rfl ?_
  have hc3 : Chg f w w3 := (chg_of_below HFH.out.2.2.1 (Nat.le_refl _)).trans (chg_of_below HB3.out (Nat.le_refl _))
  refine ⟨rfl, ?_, chg_row_new hc3 _ (by omega)⟩
  rw [((Chg.refl (w.heap.size + 1) w3).row _).block f (by have := HFL.out; have := hc3.size; omega) (by have := HFL.out; omega), HB3.out.block _ (by have := HFL.out; rw [HFH.out.2.2.2]; omega)]
  exact HFF.out
end Go.Proofs.YtecacjddggljgaaDoor.Sm
namespace Go.Proofs.YtecacjddggljgaaDoor.Sm
open Go.RowKit
theorem chg_cell {w w' : World} {f : Nat} {a : Addr} {v : Value} (h : Chg f w w') (hc : w.cell? a = some v) (hne : a.block ≠ f) : w'.cell? a = some v := by
  rw [World.cell?_of_block (h.block a.block (World.block_lt_of_cell? w a hc) hne)]; exact hc
theorem chg_range {w w' : World} {f g o : Nat} {cs : List Value} (h : Chg f w w') (hc : w.rangeAt g o cs) (hne : g ≠ f) : w'.rangeAt g o cs := fun j v hv => chg_cell h (hc j v hv) hne
theorem WW_size {w : World} {b : Nat} {ws : List UInt32} (h : WW w b ws) : b < w.heap.size := by
  have h0 := h 0 (by decide)
  rcases Nat.lt_or_ge b w.heap.size with h1 | h1
  · exact h1
  · simp [World.cell?, Array.getElem?_eq_none h1] at h0
set_option maxHeartbeats 4000000 in
set_option maxRecDepth 100000 in
theorem fill_two (a b c d m : Nat) (z : Int) (qo : Option Addr) (qn qc f : Nat) (po : Option Addr) (pn pc : Nat) (l r : List UInt8) (R1 R2 : Option Addr → Nat → Nat → Prop) (w : World) (h1 : ¬ (b ≤ c ∨ d ≤ a)) (h2 : ¬ (c ≤ a ∧ b ≤ d)) (h3 : 2 ≤ b - a) (hb : b ≤ 9223372036854775807) (hm : a + halfN (b - a) = m) (hf : w.heap[f]? = some (.cells (fillC z c d qo qn qc po pn pc) 126 (0, 0))) (hll : l.length = 32) (hrl : r.length = 32) (hf0 : f ≠ 1) (hK : WW w 1 ks) (hz : -9223372036854775808 ≤ z ∧ z ≤ 9223372036854775807)
    (H1 : ∀ W, Chg f w W → W.heap[f]? = some (.cells (fillC z c d qo qn qc po pn pc) 126 (0, 0)) → Calls Tryd.prog 79 #[.pointer (some ⟨f, 0, none⟩), .agg #[.int .i64 (a : Int), .int .i64 (m : Int)]] W fun e w' => e = .returned (dv l) ∧ (∃ po2 pn2 pc2, R1 po2 pn2 pc2 ∧ w'.heap[f]? = some (.cells (fillC z c d qo qn qc po2 pn2 pc2) 126 (0, 0))) ∧ Chg f W w')
    (H2 : ∀ po2 pn2 pc2 W, R1 po2 pn2 pc2 → Chg f w W → W.heap[f]? = some (.cells (fillC z c d qo qn qc po2 pn2 pc2) 126 (0, 0)) → Calls Tryd.prog 79 #[.pointer (some ⟨f, 0, none⟩), .agg #[.int .i64 (m : Int), .int .i64 (b : Int)]] W fun e w' => e = .returned (dv r) ∧ (∃ po3 pn3 pc3, R2 po3 pn3 pc3 ∧ w'.heap[f]? = some (.cells (fillC z c d qo qn qc po3 pn3 pc3) 126 (0, 0))) ∧ Chg f W w') :
    Calls Tryd.prog 79 #[.pointer (some ⟨f, 0, none⟩), sv a b] w fun e w' => e = .returned (dv (nodeD z l r)) ∧ (∃ po3 pn3 pc3, R2 po3 pn3 pc3 ∧ w'.heap[f]? = some (.cells (fillC z c d qo qn qc po3 pn3 pc3) 126 (0, 0))) ∧ Chg f w w' := by
  have HA : Hid (∀ W, Calls Tryd.prog 105 #[.agg #[.int .i64 (a : Int), .int .i64 (b : Int)], .agg #[.int .i64 (c : Int), .int .i64 (d : Int)]] W fun e w' => e = .returned (.bool false) ∧ Below W.heap.size W w') := fun W => by
    have h := apart_any a b c d W
    rw [decide_eq_false h1] at h
    exact h
  have HI : Hid (∀ W, Calls Tryd.prog 106 #[.agg #[.int .i64 (a : Int), .int .i64 (b : Int)], .agg #[.int .i64 (c : Int), .int .i64 (d : Int)]] W fun e w' => e = .returned (.bool false) ∧ Below W.heap.size W w') := fun W => by
    have h := within_any a b c d W
    rw [decide_eq_false h2] at h
    exact h
  have HH : Hid (∀ W, Calls Tryd.prog 86 #[.agg #[.int .i64 (a : Int), .int .i64 (b : Int)]] W fun e w' => e = .returned (.tuple #[.agg #[.int .i64 (a : Int), .int .i64 (m : Int)], .agg #[.int .i64 (m : Int), .int .i64 (b : Int)]]) ∧ Below W.heap.size W w') := fun W => by
    have h := halves_any a b W (by omega) hb
    rw [hm] at h
    exact h
  have HFW : Hid _ := hf
  have HFL : Hid (f < w.heap.size) := (Array.getElem?_eq_some_iff.1 hf).1
  have HN : Hid (∀ W, Chg f w W → Calls Tryd.prog 87 #[.agg #[.int .i64 z], .agg (cellsOf l).toArray, .agg (cellsOf r).toArray] W fun e w' => e = .returned (dv (nodeD z l r)) ∧ Below W.heap.size W w') := fun W hW => by
    have hl := HFL.out
    have hk1 := WW_size hK
    exact node_any z l r W hll hrl (hK.chg hW (by omega) (by omega)) (by have := hW.size; omega) hz
  have HLL : Hid (l.length = 32) := hll
  have HRL : Hid (r.length = 32) := hrl
  have hdl := nodeD_length z l r
  obtain ⟨x, HXD⟩ : ∃ x, Hid (nodeD z l r = x) := ⟨_, rfl⟩
  rw [HXD.out] at hdl HN ⊢
  have HXL : Hid (x.length = 32) := hdl
  have HC1 : Hid _ := H1
  have HC2 : Hid _ := H2
  clear h1 h2 h3 hb hm hf hll hrl hf0 hK hz hdl H1 H2
  unfold sv
  go_enter Tryd.func79, Tryd.ntmps79
  go_upto_region 1 with fail
  have HF0 := frame2 w (Obj.cells #[.int .i64 (a : Int), .int .i64 (b : Int)] 120) #[Value.int IntKind.u8 0, Value.int IntKind.u8 0, Value.int IntKind.u8 0, Value.int IntKind.u8 0, Value.int IntKind.u8 0, Value.int IntKind.u8 0, Value.int IntKind.u8 0, Value.int IntKind.u8 0, Value.int IntKind.u8 0, Value.int IntKind.u8 0, Value.int IntKind.u8 0, Value.int IntKind.u8 0, Value.int IntKind.u8 0, Value.int IntKind.u8 0, Value.int IntKind.u8 0, Value.int IntKind.u8 0, Value.int IntKind.u8 0, Value.int IntKind.u8 0, Value.int IntKind.u8 0, Value.int IntKind.u8 0, Value.int IntKind.u8 0, Value.int IntKind.u8 0, Value.int IntKind.u8 0, Value.int IntKind.u8 0, Value.int IntKind.u8 0, Value.int IntKind.u8 0, Value.int IntKind.u8 0, Value.int IntKind.u8 0, Value.int IntKind.u8 0, Value.int IntKind.u8 0, Value.int IntKind.u8 0, Value.int IntKind.u8 0] 46
  obtain ⟨W0, HW0⟩ : ∃ W, Hid ((w.alloc (Obj.cells #[.int .i64 (a : Int), .int .i64 (b : Int)] 120)).alloc (Obj.cells #[Value.int IntKind.u8 0, Value.int IntKind.u8 0, Value.int IntKind.u8 0, Value.int IntKind.u8 0, Value.int IntKind.u8 0, Value.int IntKind.u8 0, Value.int IntKind.u8 0, Value.int IntKind.u8 0, Value.int IntKind.u8 0, Value.int IntKind.u8 0, Value.int IntKind.u8 0, Value.int IntKind.u8 0, Value.int IntKind.u8 0, Value.int IntKind.u8 0, Value.int IntKind.u8 0, Value.int IntKind.u8 0, Value.int IntKind.u8 0, Value.int IntKind.u8 0, Value.int IntKind.u8 0, Value.int IntKind.u8 0, Value.int IntKind.u8 0, Value.int IntKind.u8 0, Value.int IntKind.u8 0, Value.int IntKind.u8 0, Value.int IntKind.u8 0, Value.int IntKind.u8 0, Value.int IntKind.u8 0, Value.int IntKind.u8 0, Value.int IntKind.u8 0, Value.int IntKind.u8 0, Value.int IntKind.u8 0, Value.int IntKind.u8 0] 46) = W) := ⟨_, rfl⟩
  rw [HW0.out] at HF0 ⊢
  have HFH : Hid _ := HF0
  have HFF : Hid (W0.heap[f]? = some (.cells (fillC z c d qo qn qc po pn pc) 126 (0, 0))) := (HF0.2.2.1.block _ HFL.out).trans HFW.out
  clear HF0 HW0
  have HS : Hid (∀ W, Below W0.heap.size W0 W → W.cell? ⟨w.heap.size, 0, none⟩ = some (.int .i64 (a : Int)) ∧ W.cell? ⟨w.heap.size, 1, none⟩ = some (.int .i64 (b : Int)) ∧ W.cell? ⟨f, 0, none⟩ = some (.int .i64 z) ∧ W.cell? ⟨f, 1, none⟩ = some (.int .i64 (c : Int)) ∧ W.cell? ⟨f, 2, none⟩ = some (.int .i64 (d : Int)) ∧ W.cell? ⟨f, 3, none⟩ = some (.slice qo qn qc)) := fun W hW =>
    ⟨bel_cell2 hW (Nat.le_refl _) (span_row HFH.out.1).1, bel_cell2 hW (Nat.le_refl _) (span_row HFH.out.1).2, bel_cell2 hW (Nat.le_refl _) (fill_cells HFF.out).1, bel_cell2 hW (Nat.le_refl _) (fill_cells HFF.out).2.1, bel_cell2 hW (Nat.le_refl _) (fill_cells HFF.out).2.2.1, bel_cell2 hW (Nat.le_refl _) (fill_cells HFF.out).2.2.2.1⟩
  refine wp_region_held_drew (S := fun W => W.cell? ⟨w.heap.size, 0, none⟩ = some (.int .i64 (a : Int)) ∧ W.cell? ⟨w.heap.size, 1, none⟩ = some (.int .i64 (b : Int)) ∧ W.cell? ⟨f, 0, none⟩ = some (.int .i64 z) ∧ W.cell? ⟨f, 1, none⟩ = some (.int .i64 (c : Int)) ∧ W.cell? ⟨f, 2, none⟩ = some (.int .i64 (d : Int)) ∧ W.cell? ⟨f, 3, none⟩ = some (.slice qo qn qc)) (by kernel_rfl) (HS.out _ (Below.drew (Below.refl _ _))) (fun hS => ?_)
  refine wpAnyH_take (i := 0) (v := ?_) rfl (by kernel_rfl) (by kernel_rfl) (by kernel_rfl) (fun _ _ _ h => h) (Or.inl ⟨by rfl, ?_⟩) (by assumption) ?_
  rotate_left
  · (intro w hSw; (try dsimp only at hSw); go_simp; try with_reducible rfl)
  simp only [Act.put, List.getElem_toArray, List.getElem_cons_zero, List.setIfInBounds_toArray, List.set_cons_zero, List.set_cons_succ]
  refine wpAnyH_take (i := 1) (v := ?_) rfl (by kernel_rfl) (by kernel_rfl) (by kernel_rfl) (fun _ _ _ h => h) (Or.inl ⟨by rfl, ?_⟩) (by assumption) ?_
  rotate_left
  · (intro w hSw; (try dsimp only at hSw); go_simp; try with_reducible rfl)
  simp only [Act.put, List.getElem_toArray, List.getElem_cons_zero, List.getElem_cons_succ, List.setIfInBounds_toArray, List.set_cons_zero, List.set_cons_succ]
  refine wpAnyH_take (i := 2) (v := ?_) rfl (by kernel_rfl) (by kernel_rfl) (by kernel_rfl) (fun _ _ _ h => h) (Or.inl ⟨by rfl, ?_⟩) (by assumption) ?_
  rotate_left
  · (intro w hSw; (try dsimp only at hSw); go_simp; try with_reducible rfl)
  simp only [Act.put, List.getElem_toArray, List.getElem_cons_zero, List.getElem_cons_succ, List.setIfInBounds_toArray, List.set_cons_zero, List.set_cons_succ]
  refine wpAnyH_take (i := 3) (v := ?_) rfl (by kernel_rfl) (by kernel_rfl) (by kernel_rfl) (fun _ _ _ h => h) (Or.inl ⟨by rfl, ?_⟩) (by assumption) ?_
  rotate_left
  · (intro w hSw; (try dsimp only at hSw); go_simp; try with_reducible rfl)
  simp only [Act.put, List.getElem_toArray, List.getElem_cons_zero, List.getElem_cons_succ, List.setIfInBounds_toArray, List.set_cons_zero, List.set_cons_succ]
  refine wpAnyH_take (i := 4) (v := ?_) rfl (by kernel_rfl) (by kernel_rfl) (by kernel_rfl) (fun _ _ _ h => h) (Or.inl ⟨by rfl, ?_⟩) (by assumption) ?_
  rotate_left
  · (intro w hSw; (try dsimp only at hSw); go_simp; try with_reducible rfl)
  simp only [Act.put, List.getElem_toArray, List.getElem_cons_zero, List.getElem_cons_succ, List.setIfInBounds_toArray, List.set_cons_zero, List.set_cons_succ]
  refine wpAnyH_ready (rs := [5]) (by kernel_rfl) (by simp) ?_
  refine AllReadyH.cons rfl (fun K hK => ?_) AllReadyH.nil
  go_simp
  refine (HA.out _).mono ?_
  rintro e w1 ⟨rfl, hb1⟩
  have HB1 : Hid (Below W0.heap.size W0 w1) := (Below.drew (Below.refl _ _)).trans hb1
  go_wp2_with fail
  refine hK.out _ _ (HS.out _ HB1.out) (fun hHeld2 => ?_)
  clear hK K hb1
  refine wpAnyH_done (by kernel_rfl) ?_ _
  clear hS hHeld2
  go_upto_region 5 with fail
  refine wp_region_held_drew (S := fun W => W.cell? ⟨w.heap.size, 0, none⟩ = some (.int .i64 (a : Int)) ∧ W.cell? ⟨w.heap.size, 1, none⟩ = some (.int .i64 (b : Int)) ∧ W.cell? ⟨f, 0, none⟩ = some (.int .i64 z) ∧ W.cell? ⟨f, 1, none⟩ = some (.int .i64 (c : Int)) ∧ W.cell? ⟨f, 2, none⟩ = some (.int .i64 (d : Int)) ∧ W.cell? ⟨f, 3, none⟩ = some (.slice qo qn qc)) (by kernel_rfl) (HS.out _ (Below.drew HB1.out)) (fun hS => ?_)
  refine wpAnyH_take (i := 0) (v := ?_) rfl (by kernel_rfl) (by kernel_rfl) (by kernel_rfl) (fun _ _ _ h => h) (Or.inl ⟨by rfl, ?_⟩) (by assumption) ?_
  rotate_left
  · (intro w hSw; (try dsimp only at hSw); go_simp; try with_reducible rfl)
  simp only [Act.put, List.getElem_toArray, List.getElem_cons_zero, List.setIfInBounds_toArray, List.set_cons_zero, List.set_cons_succ]
  refine wpAnyH_take (i := 1) (v := ?_) rfl (by kernel_rfl) (by kernel_rfl) (by kernel_rfl) (fun _ _ _ h => h) (Or.inl ⟨by rfl, ?_⟩) (by assumption) ?_
  rotate_left
  · (intro w hSw; (try dsimp only at hSw); go_simp; try with_reducible rfl)
  simp only [Act.put, List.getElem_toArray, List.getElem_cons_zero, List.getElem_cons_succ, List.setIfInBounds_toArray, List.set_cons_zero, List.set_cons_succ]
  refine wpAnyH_take (i := 2) (v := ?_) rfl (by kernel_rfl) (by kernel_rfl) (by kernel_rfl) (fun _ _ _ h => h) (Or.inl ⟨by rfl, ?_⟩) (by assumption) ?_
  rotate_left
  · (intro w hSw; (try dsimp only at hSw); go_simp; try with_reducible rfl)
  simp only [Act.put, List.getElem_toArray, List.getElem_cons_zero, List.getElem_cons_succ, List.setIfInBounds_toArray, List.set_cons_zero, List.set_cons_succ]
  refine wpAnyH_take (i := 3) (v := ?_) rfl (by kernel_rfl) (by kernel_rfl) (by kernel_rfl) (fun _ _ _ h => h) (Or.inl ⟨by rfl, ?_⟩) (by assumption) ?_
  rotate_left
  · (intro w hSw; (try dsimp only at hSw); go_simp; try with_reducible rfl)
  simp only [Act.put, List.getElem_toArray, List.getElem_cons_zero, List.getElem_cons_succ, List.setIfInBounds_toArray, List.set_cons_zero, List.set_cons_succ]
  refine wpAnyH_take (i := 4) (v := ?_) rfl (by kernel_rfl) (by kernel_rfl) (by kernel_rfl) (fun _ _ _ h => h) (Or.inl ⟨by rfl, ?_⟩) (by assumption) ?_
  rotate_left
  · (intro w hSw; (try dsimp only at hSw); go_simp; try with_reducible rfl)
  simp only [Act.put, List.getElem_toArray, List.getElem_cons_zero, List.getElem_cons_succ, List.setIfInBounds_toArray, List.set_cons_zero, List.set_cons_succ]
  refine wpAnyH_ready (rs := [5]) (by kernel_rfl) (by simp) ?_
  refine AllReadyH.cons rfl (fun K hK => ?_) AllReadyH.nil
  go_simp
  refine (HI.out _).mono ?_
  rintro e w2 ⟨rfl, hb2⟩
  have HB2 : Hid (Below W0.heap.size W0 w2) := (Below.drew HB1.out).trans (hb2.mono HB1.out.size)
  go_wp2_with fail
  refine hK.out _ _ (HS.out _ HB2.out) (fun hHeld2 => ?_)
  clear hK K hb2
  refine wpAnyH_done (by kernel_rfl) ?_ _
  clear hS hHeld2
  obtain ⟨q0, q1, -⟩ := HS.out _ HB2.out
  go_wp2_with fail
  refine (HH.out _).mono ?_
  rintro e w3 ⟨rfl, hb3⟩
  have HB3 : Hid (Below W0.heap.size W0 w3) := HB2.out.trans (hb3.mono HB2.out.size)
  clear hb3 q0 q1
  go_upto_region 8 with fail
  obtain ⟨W4, HW4⟩ : ∃ W, Hid (W = (w3.alloc (.cells #[.int .i64 (a : Int), .int .i64 (m : Int)] 120)).alloc (.cells #[.int .i64 (m : Int), .int .i64 (b : Int)] 120)) := ⟨_, rfl⟩
  obtain ⟨d0, d1, d2, d3, hb4⟩ := two_cells w3 a m m b W4 HW4.out
  rw [← HW4.out]
  have HB4 : Hid (Below W0.heap.size W0 W4) := HB3.out.trans (hb4.mono HB3.out.size)
  have HC4 : Hid (Chg f w W4) := (chg_of_below HFH.out.2.2.1 (Nat.le_refl _)).trans (chg_of_below HB4.out (Nat.le_refl _))
  have HF4 : Hid (W4.heap[f]? = some (.cells (fillC z c d qo qn qc po pn pc) 126 (0, 0))) := (HB4.out.block _ (by have := HFL.out; rw [HFH.out.2.2.2]; omega)).trans HFF.out
  have HD23 : Hid _ := And.intro d2 d3
  clear hb4 d2 d3
  go_wp2_with fail
  refine (HC1.out _ HC4.out HF4.out).mono ?_
  rintro e w5 ⟨rfl, ⟨po2, pn2, pc2, hr1, hf5⟩, hc5⟩
  have HC5 : Hid (Chg f W4 w5) := hc5
  have HF5 : Hid _ := hf5
  have HR1 : Hid (R1 po2 pn2 pc2) := hr1
  clear hc5 hf5 hr1 d0 d1
  unfold dv
  have HN5 : Hid ((w5.alloc (.cells #[Value.int IntKind.u8 0, Value.int IntKind.u8 0, Value.int IntKind.u8 0, Value.int IntKind.u8 0, Value.int IntKind.u8 0, Value.int IntKind.u8 0, Value.int IntKind.u8 0, Value.int IntKind.u8 0, Value.int IntKind.u8 0, Value.int IntKind.u8 0, Value.int IntKind.u8 0, Value.int IntKind.u8 0, Value.int IntKind.u8 0, Value.int IntKind.u8 0, Value.int IntKind.u8 0, Value.int IntKind.u8 0, Value.int IntKind.u8 0, Value.int IntKind.u8 0, Value.int IntKind.u8 0, Value.int IntKind.u8 0, Value.int IntKind.u8 0, Value.int IntKind.u8 0, Value.int IntKind.u8 0, Value.int IntKind.u8 0, Value.int IntKind.u8 0, Value.int IntKind.u8 0, Value.int IntKind.u8 0, Value.int IntKind.u8 0, Value.int IntKind.u8 0, Value.int IntKind.u8 0, Value.int IntKind.u8 0, Value.int IntKind.u8 0] 46)).heap[w5.heap.size]? = some (.cells #[Value.int IntKind.u8 0, Value.int IntKind.u8 0, Value.int IntKind.u8 0, Value.int IntKind.u8 0, Value.int IntKind.u8 0, Value.int IntKind.u8 0, Value.int IntKind.u8 0, Value.int IntKind.u8 0, Value.int IntKind.u8 0, Value.int IntKind.u8 0, Value.int IntKind.u8 0, Value.int IntKind.u8 0, Value.int IntKind.u8 0, Value.int IntKind.u8 0, Value.int IntKind.u8 0, Value.int IntKind.u8 0, Value.int IntKind.u8 0, Value.int IntKind.u8 0, Value.int IntKind.u8 0, Value.int IntKind.u8 0, Value.int IntKind.u8 0, Value.int IntKind.u8 0, Value.int IntKind.u8 0, Value.int IntKind.u8 0, Value.int IntKind.u8 0, Value.int IntKind.u8 0, Value.int IntKind.u8 0, Value.int IntKind.u8 0, Value.int IntKind.u8 0, Value.int IntKind.u8 0, Value.int IntKind.u8 0, Value.int IntKind.u8 0] 46 (0, 0))) := heap_alloc_new w5 _
  go_upto_region 9 with (refine wpList_store_row rfl 46 (.tmp 8) (.tmp 70) rfl w5.heap.size (cellsOf l).toArray rfl rfl 46 _ HN5.out (by rw [size24, dig_size HLL.out]) (by rw [dig_size HLL.out]; rfl) (cells_all _) ?_)
  have HR6 := setRow_heap _ _ _ (cellsOf l).toArray _ _ HN5.out
  have HB6 : Below w5.heap.size w5 ((w5.alloc (.cells #[Value.int IntKind.u8 0, Value.int IntKind.u8 0, Value.int IntKind.u8 0, Value.int IntKind.u8 0, Value.int IntKind.u8 0, Value.int IntKind.u8 0, Value.int IntKind.u8 0, Value.int IntKind.u8 0, Value.int IntKind.u8 0, Value.int IntKind.u8 0, Value.int IntKind.u8 0, Value.int IntKind.u8 0, Value.int IntKind.u8 0, Value.int IntKind.u8 0, Value.int IntKind.u8 0, Value.int IntKind.u8 0, Value.int IntKind.u8 0, Value.int IntKind.u8 0, Value.int IntKind.u8 0, Value.int IntKind.u8 0, Value.int IntKind.u8 0, Value.int IntKind.u8 0, Value.int IntKind.u8 0, Value.int IntKind.u8 0, Value.int IntKind.u8 0, Value.int IntKind.u8 0, Value.int IntKind.u8 0, Value.int IntKind.u8 0, Value.int IntKind.u8 0, Value.int IntKind.u8 0, Value.int IntKind.u8 0, Value.int IntKind.u8 0] 46)).setRow w5.heap.size (cellsOf l).toArray) := below_row (bel_alloc w5 _) (Nat.le_refl _) _
  obtain ⟨W6, HW6⟩ : ∃ W, Hid ((w5.alloc (.cells #[Value.int IntKind.u8 0, Value.int IntKind.u8 0, Value.int IntKind.u8 0, Value.int IntKind.u8 0, Value.int IntKind.u8 0, Value.int IntKind.u8 0, Value.int IntKind.u8 0, Value.int IntKind.u8 0, Value.int IntKind.u8 0, Value.int IntKind.u8 0, Value.int IntKind.u8 0, Value.int IntKind.u8 0, Value.int IntKind.u8 0, Value.int IntKind.u8 0, Value.int IntKind.u8 0, Value.int IntKind.u8 0, Value.int IntKind.u8 0, Value.int IntKind.u8 0, Value.int IntKind.u8 0, Value.int IntKind.u8 0, Value.int IntKind.u8 0, Value.int IntKind.u8 0, Value.int IntKind.u8 0, Value.int IntKind.u8 0, Value.int IntKind.u8 0, Value.int IntKind.u8 0, Value.int IntKind.u8 0, Value.int IntKind.u8 0, Value.int IntKind.u8 0, Value.int IntKind.u8 0, Value.int IntKind.u8 0, Value.int IntKind.u8 0] 46)).setRow w5.heap.size (cellsOf l).toArray = W) := ⟨_, rfl⟩
  rw [HW6.out] at HR6 HB6 ⊢
  have HR6 : Hid _ := HR6
  have HB6 : Hid (Below w5.heap.size w5 W6) := HB6
  have HC46 : Hid (Chg f W4 W6) := HC5.out.trans (chg_of_below HB6.out (Nat.le_refl _))
  have HF6 : Hid (W6.heap[f]? = some (.cells (fillC z c d qo qn qc po2 pn2 pc2) 126 (0, 0))) := (HB6.out.block _ (Array.getElem?_eq_some_iff.1 HF5.out).1).trans HF5.out
  have HNE : Hid (w3.heap.size + 1 ≠ f ∧ w.heap.size + 1 ≠ f ∧ w.heap.size + 1 < W4.heap.size) := by
    have h1 := HFL.out
    have h2 := HFH.out.2.2.2
    have h3 := HB3.out.size
    have h4 := HB4.out.size
    show _ ∧ _ ∧ _
    omega
  have d2 := chg_cell HC46.out HD23.out.1 HNE.out.1
  have d3 := chg_cell HC46.out HD23.out.2 HNE.out.1
  clear HN5 HW6
  go_wp2_with fail
  refine (HC2.out _ _ _ _ HR1.out (HC4.out.trans HC46.out) HF6.out).mono ?_
  rintro e w7 ⟨rfl, ⟨po3, pn3, pc3, hr2, hf7⟩, hc7⟩
  have HC7 : Hid (Chg f W6 w7) := hc7
  have HF7 : Hid _ := hf7
  have HR2 : Hid (R2 po3 pn3 pc3) := hr2
  clear hc7 hf7 hr2 d2 d3
  unfold dv
  have HN7 : Hid ((w7.alloc (.cells #[Value.int IntKind.u8 0, Value.int IntKind.u8 0, Value.int IntKind.u8 0, Value.int IntKind.u8 0, Value.int IntKind.u8 0, Value.int IntKind.u8 0, Value.int IntKind.u8 0, Value.int IntKind.u8 0, Value.int IntKind.u8 0, Value.int IntKind.u8 0, Value.int IntKind.u8 0, Value.int IntKind.u8 0, Value.int IntKind.u8 0, Value.int IntKind.u8 0, Value.int IntKind.u8 0, Value.int IntKind.u8 0, Value.int IntKind.u8 0, Value.int IntKind.u8 0, Value.int IntKind.u8 0, Value.int IntKind.u8 0, Value.int IntKind.u8 0, Value.int IntKind.u8 0, Value.int IntKind.u8 0, Value.int IntKind.u8 0, Value.int IntKind.u8 0, Value.int IntKind.u8 0, Value.int IntKind.u8 0, Value.int IntKind.u8 0, Value.int IntKind.u8 0, Value.int IntKind.u8 0, Value.int IntKind.u8 0, Value.int IntKind.u8 0] 46)).heap[w7.heap.size]? = some (.cells #[Value.int IntKind.u8 0, Value.int IntKind.u8 0, Value.int IntKind.u8 0, Value.int IntKind.u8 0, Value.int IntKind.u8 0, Value.int IntKind.u8 0, Value.int IntKind.u8 0, Value.int IntKind.u8 0, Value.int IntKind.u8 0, Value.int IntKind.u8 0, Value.int IntKind.u8 0, Value.int IntKind.u8 0, Value.int IntKind.u8 0, Value.int IntKind.u8 0, Value.int IntKind.u8 0, Value.int IntKind.u8 0, Value.int IntKind.u8 0, Value.int IntKind.u8 0, Value.int IntKind.u8 0, Value.int IntKind.u8 0, Value.int IntKind.u8 0, Value.int IntKind.u8 0, Value.int IntKind.u8 0, Value.int IntKind.u8 0, Value.int IntKind.u8 0, Value.int IntKind.u8 0, Value.int IntKind.u8 0, Value.int IntKind.u8 0, Value.int IntKind.u8 0, Value.int IntKind.u8 0, Value.int IntKind.u8 0, Value.int IntKind.u8 0] 46 (0, 0))) := heap_alloc_new w7 _
  go_upto_region 10 with (refine wpList_store_row rfl 46 (.tmp 9) (.tmp 73) rfl w7.heap.size (cellsOf r).toArray rfl rfl 46 _ HN7.out (by rw [size24, dig_size HRL.out]) (by rw [dig_size HRL.out]; rfl) (cells_all _) ?_)
  have HR8 := setRow_heap _ _ _ (cellsOf r).toArray _ _ HN7.out
  have HB8 : Below w7.heap.size w7 ((w7.alloc (.cells #[Value.int IntKind.u8 0, Value.int IntKind.u8 0, Value.int IntKind.u8 0, Value.int IntKind.u8 0, Value.int IntKind.u8 0, Value.int IntKind.u8 0, Value.int IntKind.u8 0, Value.int IntKind.u8 0, Value.int IntKind.u8 0, Value.int IntKind.u8 0, Value.int IntKind.u8 0, Value.int IntKind.u8 0, Value.int IntKind.u8 0, Value.int IntKind.u8 0, Value.int IntKind.u8 0, Value.int IntKind.u8 0, Value.int IntKind.u8 0, Value.int IntKind.u8 0, Value.int IntKind.u8 0, Value.int IntKind.u8 0, Value.int IntKind.u8 0, Value.int IntKind.u8 0, Value.int IntKind.u8 0, Value.int IntKind.u8 0, Value.int IntKind.u8 0, Value.int IntKind.u8 0, Value.int IntKind.u8 0, Value.int IntKind.u8 0, Value.int IntKind.u8 0, Value.int IntKind.u8 0, Value.int IntKind.u8 0, Value.int IntKind.u8 0] 46)).setRow w7.heap.size (cellsOf r).toArray) := below_row (bel_alloc w7 _) (Nat.le_refl _) _
  obtain ⟨W8, HW8⟩ : ∃ W, Hid ((w7.alloc (.cells #[Value.int IntKind.u8 0, Value.int IntKind.u8 0, Value.int IntKind.u8 0, Value.int IntKind.u8 0, Value.int IntKind.u8 0, Value.int IntKind.u8 0, Value.int IntKind.u8 0, Value.int IntKind.u8 0, Value.int IntKind.u8 0, Value.int IntKind.u8 0, Value.int IntKind.u8 0, Value.int IntKind.u8 0, Value.int IntKind.u8 0, Value.int IntKind.u8 0, Value.int IntKind.u8 0, Value.int IntKind.u8 0, Value.int IntKind.u8 0, Value.int IntKind.u8 0, Value.int IntKind.u8 0, Value.int IntKind.u8 0, Value.int IntKind.u8 0, Value.int IntKind.u8 0, Value.int IntKind.u8 0, Value.int IntKind.u8 0, Value.int IntKind.u8 0, Value.int IntKind.u8 0, Value.int IntKind.u8 0, Value.int IntKind.u8 0, Value.int IntKind.u8 0, Value.int IntKind.u8 0, Value.int IntKind.u8 0, Value.int IntKind.u8 0] 46)).setRow w7.heap.size (cellsOf r).toArray = W) := ⟨_, rfl⟩
  rw [HW8.out] at HR8 HB8 ⊢
  have HR8 : Hid _ := HR8
  have HB8 : Hid (Below w7.heap.size w7 W8) := HB8
  have HC68 : Hid (Chg f W6 W8) := HC7.out.trans (chg_of_below HB8.out (Nat.le_refl _))
  have HF8 : Hid (W8.heap[f]? = some (.cells (fillC z c d qo qn qc po3 pn3 pc3) 126 (0, 0))) := (HB8.out.block _ (Array.getElem?_eq_some_iff.1 HF7.out).1).trans HF7.out
  have HLW : Hid (w5.heap.size < W6.heap.size ∧ w7.heap.size < W8.heap.size ∧ f < w5.heap.size ∧ f < w7.heap.size) := ⟨(Array.getElem?_eq_some_iff.1 HR6.out).1, (Array.getElem?_eq_some_iff.1 HR8.out).1, (Array.getElem?_eq_some_iff.1 HF5.out).1, (Array.getElem?_eq_some_iff.1 HF7.out).1⟩
  have HG8 : Hid (W8.rangeAt w5.heap.size 0 (cellsOf l)) := chg_range HC68.out (range_of HR6.out) (by have := HLW.out; omega)
  have HS8 : Hid (∀ W, Below W8.heap.size W8 W → W.cell? ⟨f, 0, none⟩ = some (.int .i64 z) ∧ W.rangeAt w5.heap.size 0 (cellsOf l) ∧ W.rangeAt w7.heap.size 0 (cellsOf r)) := fun W hW => ⟨bel_cell2 hW (Nat.le_refl _) (fill_cells HF8.out).1, range_bel HG8.out hW (Nat.le_refl _), range_bel (range_of HR8.out) hW (Nat.le_refl _)⟩
  have HC8 : Hid (Chg f w W8) := HC4.out.trans (HC46.out.trans HC68.out)
  have HZ8 : Hid (W8.heap[w.heap.size + 1]? = some (.cells #[Value.int IntKind.u8 0, Value.int IntKind.u8 0, Value.int IntKind.u8 0, Value.int IntKind.u8 0, Value.int IntKind.u8 0, Value.int IntKind.u8 0, Value.int IntKind.u8 0, Value.int IntKind.u8 0, Value.int IntKind.u8 0, Value.int IntKind.u8 0, Value.int IntKind.u8 0, Value.int IntKind.u8 0, Value.int IntKind.u8 0, Value.int IntKind.u8 0, Value.int IntKind.u8 0, Value.int IntKind.u8 0, Value.int IntKind.u8 0, Value.int IntKind.u8 0, Value.int IntKind.u8 0, Value.int IntKind.u8 0, Value.int IntKind.u8 0, Value.int IntKind.u8 0, Value.int IntKind.u8 0, Value.int IntKind.u8 0, Value.int IntKind.u8 0, Value.int IntKind.u8 0, Value.int IntKind.u8 0, Value.int IntKind.u8 0, Value.int IntKind.u8 0, Value.int IntKind.u8 0, Value.int IntKind.u8 0, Value.int IntKind.u8 0] 46 (0, 0))) := ((HC46.out.trans HC68.out).block _ HNE.out.2.2 HNE.out.2.1).trans ((HB4.out.block _ (by rw [HFH.out.2.2.2]; omega)).trans HFH.out.2.1)
  have HIL : Hid ((Tryd.prog.info? 46).map (·.size) = some (cellsOf l).length) := by show _ = _; rw [size24, cellsOf_length, HLL.out]
  have HIR : Hid ((Tryd.prog.info? 46).map (·.size) = some (cellsOf r).length) := by show _ = _; rw [size24, cellsOf_length, HRL.out]
  clear HN7 HW8
  refine wp_region_held_drew (S := fun W => W.cell? ⟨f, 0, none⟩ = some (.int .i64 z) ∧ W.rangeAt w5.heap.size 0 (cellsOf l) ∧ W.rangeAt w7.heap.size 0 (cellsOf r)) (by kernel_rfl) (HS8.out _ (Below.drew (Below.refl _ _))) (fun hS => ?_)
  refine wpAnyH_take (i := 0) (v := ?_) rfl (by kernel_rfl) (by kernel_rfl) (by kernel_rfl) (fun _ _ _ h => h) (Or.inl ⟨by rfl, ?_⟩) (by assumption) ?_
  rotate_left
  · (intro w hSw; (try dsimp only at hSw); go_simp; try with_reducible rfl)
  simp only [Act.put, List.getElem_toArray, List.getElem_cons_zero, List.setIfInBounds_toArray, List.set_cons_zero, List.set_cons_succ]
  refine wpAnyH_take (i := 1) (v := ?_) rfl (by kernel_rfl) (by kernel_rfl) (by kernel_rfl) (fun _ _ _ h => h) (Or.inl ⟨by rfl, ?_⟩) (by assumption) ?_
  rotate_left
  · (intro w hSw; (try dsimp only at hSw); go_simp; try with_reducible rfl)
  simp only [Act.put, List.getElem_toArray, List.getElem_cons_zero, List.getElem_cons_succ, List.setIfInBounds_toArray, List.set_cons_zero, List.set_cons_succ]
  refine wpAnyH_take (i := 2) (v := ?_) rfl (by kernel_rfl) (by kernel_rfl) (by kernel_rfl) (fun _ _ _ h => h) (Or.inl ⟨by rfl, ?_⟩) (by assumption) ?_
  rotate_left
  · (intro w hSw; (try dsimp only at hSw); go_simp; try with_reducible rfl)
  simp only [Act.put, List.getElem_toArray, List.getElem_cons_zero, List.getElem_cons_succ, List.setIfInBounds_toArray, List.set_cons_zero, List.set_cons_succ]
  refine wpAnyH_take (i := 3) (v := ?_) rfl (by kernel_rfl) (by kernel_rfl) (by kernel_rfl) (fun _ _ _ h => h) (Or.inl ⟨by rfl, ?_⟩) (by assumption) ?_
  rotate_left
  · (intro w hSw; (try dsimp only at hSw); go_simp; try with_reducible rfl)
  simp only [Act.put, List.getElem_toArray, List.getElem_cons_zero, List.getElem_cons_succ, List.setIfInBounds_toArray, List.set_cons_zero, List.set_cons_succ]
  refine wpAnyH_take (i := 4) (v := .agg (cellsOf l).toArray) rfl (by kernel_rfl) (by kernel_rfl) (by kernel_rfl) (fun _ _ _ h => h) (yieldsIf_load_mid (by rfl) 46 (.tmp 8) rfl w5.heap.size 0 rfl (cellsOf l) _ (fun _ h => h.2.1) Tryd.underlying46 rfl HIL.out) (by assumption) ?_
  simp only [Act.put, List.getElem_toArray, List.getElem_cons_zero, List.getElem_cons_succ, List.setIfInBounds_toArray, List.set_cons_zero, List.set_cons_succ]
  refine wpAnyH_take (i := 5) (v := .agg (cellsOf r).toArray) rfl (by kernel_rfl) (by kernel_rfl) (by kernel_rfl) (fun _ _ _ h => h) (yieldsIf_load_mid (by rfl) 46 (.tmp 9) rfl w7.heap.size 0 rfl (cellsOf r) _ (fun _ h => h.2.2) Tryd.underlying46 rfl HIR.out) (by assumption) ?_
  simp only [Act.put, List.getElem_toArray, List.getElem_cons_zero, List.getElem_cons_succ, List.setIfInBounds_toArray, List.set_cons_zero, List.set_cons_succ]
  refine wpAnyH_ready (rs := [6]) (by kernel_rfl) (by simp) ?_
  refine AllReadyH.cons rfl (fun K hK => ?_) AllReadyH.nil
  go_simp
  refine (HN.out _ HC8.out.drew).mono ?_
  rintro e w9 ⟨rfl, hb9⟩
  have HB9 : Hid (Below W8.heap.size W8 w9) := (Below.drew (Below.refl _ _)).trans hb9
  have HZ9 : Hid (w9.heap[w.heap.size + 1]? = some (.cells #[Value.int IntKind.u8 0, Value.int IntKind.u8 0, Value.int IntKind.u8 0, Value.int IntKind.u8 0, Value.int IntKind.u8 0, Value.int IntKind.u8 0, Value.int IntKind.u8 0, Value.int IntKind.u8 0, Value.int IntKind.u8 0, Value.int IntKind.u8 0, Value.int IntKind.u8 0, Value.int IntKind.u8 0, Value.int IntKind.u8 0, Value.int IntKind.u8 0, Value.int IntKind.u8 0, Value.int IntKind.u8 0, Value.int IntKind.u8 0, Value.int IntKind.u8 0, Value.int IntKind.u8 0, Value.int IntKind.u8 0, Value.int IntKind.u8 0, Value.int IntKind.u8 0, Value.int IntKind.u8 0, Value.int IntKind.u8 0, Value.int IntKind.u8 0, Value.int IntKind.u8 0, Value.int IntKind.u8 0, Value.int IntKind.u8 0, Value.int IntKind.u8 0, Value.int IntKind.u8 0, Value.int IntKind.u8 0, Value.int IntKind.u8 0] 46 (0, 0))) := (HB9.out.block _ (Array.getElem?_eq_some_iff.1 HZ8.out).1).trans HZ8.out
  unfold dv
  go_wp2_with fail
  refine hK.out _ _ (HS8.out _ HB9.out) (fun hHeld2 => ?_)
  clear hK K hb9
  refine wpAnyH_ready (rs := [7]) (by kernel_rfl) (by simp) ?_
  refine AllReadyH.cons rfl (fun K hK => ?_) AllReadyH.nil
  rw [if_pos (by rfl)]
  refine wp_store_row 46 (.tmp 4) (.tmp 80) rfl (w.heap.size + 1) (cellsOf x).toArray rfl rfl 46 _ HZ9.out (by rw [size24, dig_size HXL.out]) (by rw [dig_size HXL.out]; rfl) (cells_all _) ?_
  have HSZ : Hid (w.heap.size + 1 < w5.heap.size ∧ w5.heap.size < w7.heap.size) := by
    have h1 := HNE.out
    have h2 := HC5.out.size
    have h3 := HC7.out.size
    have h4 := HLW.out
    show _ ∧ _
    omega
  refine hK.out _ _ ?_ (fun hHeld2 => ?_)
  · obtain ⟨q0, q1, q2⟩ := HS8.out _ HB9.out
    exact ⟨cell_row_far q0 (show f ≠ w.heap.size + 1 by have := HNE.out; omega), range_far q1 (by have := HSZ.out; omega), range_far q2 (by have := HSZ.out; omega)⟩
  clear hK K
  refine wpAnyH_done (by kernel_rfl) ?_ _
  clear hS hHeld2
  go_wp2_with fail
  refine bodyPost_ret (results_cell_row rfl _ _ (w.heap.size + 1) 46 (cellsOf x).toArray (0, 0) _ rfl (setRow_heap _ _ _ _ _ _ HZ9.out) Tryd.underlying46 rfl (by rw [size24, dig_size HXL.out])) rfl ?_
  have hc9 : Chg f w w9 := HC8.out.trans (chg_of_below HB9.out (Nat.le_refl _))
  refine ⟨rfl, ⟨po3, pn3, pc3, HR2.out, ?_⟩, chg_row_new hc9 _ (by omega)⟩
  rw [((Chg.refl (w.heap.size + 1) w9).row _).block f (by have := HFL.out; have := hc9.size; omega) (by have := HNE.out; omega), HB9.out.block _ (by have := HLW.out; have := HB8.out.size; omega)]
  exact HF8.out
end Go.Proofs.YtecacjddggljgaaDoor.Sm
