/-
  What tree.filling's root answers: contracts over this translation.
-/
import Derived.Test.YtaebpnednhkfhaaDoorChk
namespace Go.Proofs.YtaebpnednhkfhaaDoor
open Go.RowKit
/-- The cells of a filling. -/
def fillC (z : Int) (c d : Nat) (qo : Option Addr) (qn qc : Nat) (po : Option Addr) (pn pc : Nat) : Array Value := #[.int .i64 z, .int .i64 (c : Int), .int .i64 (d : Int), .slice qo qn qc, .slice po pn pc]
theorem fill_cells {w : World} {f : Nat} {z : Int} {c d : Nat} {qo : Option Addr} {qn qc : Nat} {po : Option Addr} {pn pc : Nat} (h : w.heap[f]? = some (.cells (fillC z c d qo qn qc po pn pc) 99 (0, 0))) :
    w.cell? ⟨f, 0, none⟩ = some (.int .i64 z) ∧ w.cell? ⟨f, 1, none⟩ = some (.int .i64 (c : Int)) ∧ w.cell? ⟨f, 2, none⟩ = some (.int .i64 (d : Int)) ∧ w.cell? ⟨f, 3, none⟩ = some (.slice qo qn qc) ∧ w.cell? ⟨f, 4, none⟩ = some (.slice po pn pc) :=
  ⟨by rw [cell_of_row _ _ 0 _ _ _ h]; rfl, by rw [cell_of_row _ _ 1 _ _ _ h]; rfl, by rw [cell_of_row _ _ 2 _ _ _ h]; rfl, by rw [cell_of_row _ _ 3 _ _ _ h]; rfl, by rw [cell_of_row _ _ 4 _ _ _ h]; rfl⟩
theorem set_path {w : World} {f : Nat} {z : Int} {c d : Nat} {qo : Option Addr} {qn qc : Nat} {po : Option Addr} {pn pc : Nat} (h : w.heap[f]? = some (.cells (fillC z c d qo qn qc po pn pc) 99 (0, 0))) (po' : Option Addr) (pn' pc' : Nat) :
    (w.setCell ⟨f, 4, none⟩ (.slice po' pn' pc')).heap[f]? = some (.cells (fillC z c d qo qn qc po' pn' pc') 99 (0, 0)) ∧ Chg f w (w.setCell ⟨f, 4, none⟩ (.slice po' pn' pc')) := by
  refine ⟨?_, rfl, rfl, rfl, by unfold World.setCell; simp, fun q _ hq => ?_⟩
  · unfold World.setCell
    dsimp only
    rw [Array.getElem?_modify, if_pos rfl, h]
    rfl
  · unfold World.setCell
    dsimp only
    rw [Array.getElem?_modify, if_neg (by omega)]
theorem chg_of_below {w w' : World} {B f : Nat} (h : Below B w w') (hB : w.heap.size ≤ B) : Chg f w w' := (Chg.refl f w).bel h hB
/-- A result's row that is written last. -/
theorem chg_row_new {u w : World} {f g : Nat} (h : Chg f u w) (cs : Array Value) (hg : u.heap.size ≤ g) : Chg f u (w.setRow g cs) :=
  ⟨h.os, h.tape, h.output, Nat.le_trans h.size (by have := ((Chg.refl g w).row cs).size; exact this), fun q hq hne => by
    rw [((Chg.refl g w).row cs).block q (Nat.lt_of_lt_of_le hq h.size) (by omega)]
    exact h.block q hq hne⟩
set_option maxHeartbeats 4000000 in
set_option maxRecDepth 100000 in
theorem fill_apart (a b c d : Nat) (z : Int) (qo : Option Addr) (qn qc f pb po pn pc : Nat) (x : List UInt8) (w : World) (h1 : b ≤ c ∨ d ≤ a) (hf : w.heap[f]? = some (.cells (fillC z c d qo qn qc (some ⟨pb, po, none⟩) pn pc) 99 (0, 0))) (hp : 0 < pn) (hpc : pn ≤ pc)
    (hx : w.rangeAt pb po (cellsOf x)) (hxl : x.length = 32) (nx : Option Addr) (hnx : (if pc = 1 then some (⟨pb, po, none⟩ : Addr) else some ⟨pb, po + 32, none⟩) = nx) :
    Calls Tryd.prog 69 #[.pointer (some ⟨f, 0, none⟩), sv a b] w fun e w' => e = .returned (dv x) ∧ w'.heap[f]? = some (.cells (fillC z c d qo qn qc nx (pn - 1) (pc - 1)) 99 (0, 0)) ∧ Chg f w w' := by
  have HNX : Hid ((if pc = 1 then some (⟨pb, po, none⟩ : Addr) else some ⟨pb, po + 32, none⟩) = nx) := hnx
  clear hnx
  have HA : Hid (∀ W, Calls Tryd.prog 85 #[.agg #[.int .i64 (a : Int), .int .i64 (b : Int)], .agg #[.int .i64 (c : Int), .int .i64 (d : Int)]] W fun e w' => e = .returned (.bool true) ∧ Below W.heap.size W w') := fun W => by
    have h := apart_any a b c d W
    rw [decide_eq_true h1] at h
    exact h
  have HFW : Hid _ := hf
  have HX : Hid (w.rangeAt pb po (cellsOf x)) := hx
  have HXL : Hid (x.length = 32) := hxl
  have HFL : Hid (f < w.heap.size) := (Array.getElem?_eq_some_iff.1 hf).1
  clear h1 hf hx hxl
  unfold sv
  go_enter Tryd.func69, Tryd.ntmps69
  go_upto_region 1 with fail
  have HF0 := frame2 w (Obj.cells #[.int .i64 (a : Int), .int .i64 (b : Int)] 78) #[Value.int IntKind.u8 0, Value.int IntKind.u8 0, Value.int IntKind.u8 0, Value.int IntKind.u8 0, Value.int IntKind.u8 0, Value.int IntKind.u8 0, Value.int IntKind.u8 0, Value.int IntKind.u8 0, Value.int IntKind.u8 0, Value.int IntKind.u8 0, Value.int IntKind.u8 0, Value.int IntKind.u8 0, Value.int IntKind.u8 0, Value.int IntKind.u8 0, Value.int IntKind.u8 0, Value.int IntKind.u8 0, Value.int IntKind.u8 0, Value.int IntKind.u8 0, Value.int IntKind.u8 0, Value.int IntKind.u8 0, Value.int IntKind.u8 0, Value.int IntKind.u8 0, Value.int IntKind.u8 0, Value.int IntKind.u8 0, Value.int IntKind.u8 0, Value.int IntKind.u8 0, Value.int IntKind.u8 0, Value.int IntKind.u8 0, Value.int IntKind.u8 0, Value.int IntKind.u8 0, Value.int IntKind.u8 0, Value.int IntKind.u8 0] 24
  obtain ⟨W0, HW0⟩ : ∃ W, Hid ((w.alloc (Obj.cells #[.int .i64 (a : Int), .int .i64 (b : Int)] 78)).alloc (Obj.cells #[Value.int IntKind.u8 0, Value.int IntKind.u8 0, Value.int IntKind.u8 0, Value.int IntKind.u8 0, Value.int IntKind.u8 0, Value.int IntKind.u8 0, Value.int IntKind.u8 0, Value.int IntKind.u8 0, Value.int IntKind.u8 0, Value.int IntKind.u8 0, Value.int IntKind.u8 0, Value.int IntKind.u8 0, Value.int IntKind.u8 0, Value.int IntKind.u8 0, Value.int IntKind.u8 0, Value.int IntKind.u8 0, Value.int IntKind.u8 0, Value.int IntKind.u8 0, Value.int IntKind.u8 0, Value.int IntKind.u8 0, Value.int IntKind.u8 0, Value.int IntKind.u8 0, Value.int IntKind.u8 0, Value.int IntKind.u8 0, Value.int IntKind.u8 0, Value.int IntKind.u8 0, Value.int IntKind.u8 0, Value.int IntKind.u8 0, Value.int IntKind.u8 0, Value.int IntKind.u8 0, Value.int IntKind.u8 0, Value.int IntKind.u8 0] 24) = W) := ⟨_, rfl⟩
  rw [HW0.out] at HF0 ⊢
  have HFH : Hid _ := HF0
  have HFF : Hid (W0.heap[f]? = some (.cells (fillC z c d qo qn qc (some ⟨pb, po, none⟩) pn pc) 99 (0, 0))) := (HF0.2.2.1.block _ HFL.out).trans HFW.out
  clear HF0 HW0
  have HS : Hid (∀ W, Below W0.heap.size W0 W → W.cell? ⟨w.heap.size, 0, none⟩ = some (.int .i64 (a : Int)) ∧ W.cell? ⟨w.heap.size, 1, none⟩ = some (.int .i64 (b : Int)) ∧ W.cell? ⟨f, 1, none⟩ = some (.int .i64 (c : Int)) ∧ W.cell? ⟨f, 2, none⟩ = some (.int .i64 (d : Int))) := fun W hW =>
    ⟨bel_cell2 hW (Nat.le_refl _) (span_row HFH.out.1).1, bel_cell2 hW (Nat.le_refl _) (span_row HFH.out.1).2, bel_cell2 hW (Nat.le_refl _) (fill_cells HFF.out).2.1, bel_cell2 hW (Nat.le_refl _) (fill_cells HFF.out).2.2.1⟩
  refine wp_region_held_drew (S := fun W => W.cell? ⟨w.heap.size, 0, none⟩ = some (.int .i64 (a : Int)) ∧ W.cell? ⟨w.heap.size, 1, none⟩ = some (.int .i64 (b : Int)) ∧ W.cell? ⟨f, 1, none⟩ = some (.int .i64 (c : Int)) ∧ W.cell? ⟨f, 2, none⟩ = some (.int .i64 (d : Int))) (by kernel_rfl) (HS.out _ (Below.drew (Below.refl _ _))) (fun hS => ?_)
  refine wpAnyH_take (i := 0) (v := ?_) rfl (by kernel_rfl) (by kernel_rfl) (by kernel_rfl) (fun _ _ _ h => h) (Or.inl ⟨by rfl, ?_⟩) (by assumption) ?_
  rotate_left
  · (intro w hSw; (try dsimp only at hSw); go_simp; try with_reducible rfl)
  simp only [Act.put, List.getElem_toArray, List.getElem_cons_zero, List.setIfInBounds_toArray, List.set_cons_zero, List.set_cons_succ]
  refine wpAnyH_take (i := 1) (v := ?_) rfl (by kernel_rfl) (by kernel_rfl) (by kernel_rfl) (fun _ _ _ h => h) (Or.inl ⟨by rfl, ?_⟩) (by assumption) ?_
  rotate_left
  · (intro w hSw; (try dsimp only at hSw); go_simp; try with_reducible rfl)
  simp only [Act.put, List.getElem_toArray, List.getElem_cons_zero, List.getElem_cons_succ, List.setIfInBounds_toArray, List.set_cons_zero, List.set_cons_succ]
  refine wpAnyH_take (i := 2) (v := ?_) rfl (by kernel_rfl) (by kernel_rfl) (by kernel_rfl) (fun _ _ _ h => h) (Or.inl ⟨by rfl, ?_⟩) (by assumption) ?_
  rotate_left
  · (intro w hSw; (try dsimp only at hSw); go_simp; try with_reducible rfl)
  simp only [Act.put, List.getElem_toArray, List.getElem_cons_zero, List.getElem_cons_succ, List.setIfInBounds_toArray, List.set_cons_zero, List.set_cons_succ]
  refine wpAnyH_take (i := 3) (v := ?_) rfl (by kernel_rfl) (by kernel_rfl) (by kernel_rfl) (fun _ _ _ h => h) (Or.inl ⟨by rfl, ?_⟩) (by assumption) ?_
  rotate_left
  · (intro w hSw; (try dsimp only at hSw); go_simp; try with_reducible rfl)
  simp only [Act.put, List.getElem_toArray, List.getElem_cons_zero, List.getElem_cons_succ, List.setIfInBounds_toArray, List.set_cons_zero, List.set_cons_succ]
  refine wpAnyH_take (i := 4) (v := ?_) rfl (by kernel_rfl) (by kernel_rfl) (by kernel_rfl) (fun _ _ _ h => h) (Or.inl ⟨by rfl, ?_⟩) (by assumption) ?_
  rotate_left
  · (intro w hSw; (try dsimp only at hSw); go_simp; try with_reducible rfl)
  simp only [Act.put, List.getElem_toArray, List.getElem_cons_zero, List.getElem_cons_succ, List.setIfInBounds_toArray, List.set_cons_zero, List.set_cons_succ]
  refine wpAnyH_ready (rs := [5]) (by kernel_rfl) (by simp) ?_
  refine AllReadyH.cons rfl (fun K hK => ?_) AllReadyH.nil
  go_simp
  refine (HA.out _).mono ?_
  rintro e w1 ⟨rfl, hb1⟩
  have HB1 : Hid (Below W0.heap.size W0 w1) := (Below.drew (Below.refl _ _)).trans hb1
  go_wp2_with fail
  refine hK.out _ _ (HS.out _ HB1.out) (fun hHeld2 => ?_)
  clear hK K hb1
  refine wpAnyH_done (by kernel_rfl) ?_ _
  clear hS hHeld2
  have HF1 : Hid (w1.heap[f]? = some (.cells (fillC z c d qo qn qc (some ⟨pb, po, none⟩) pn pc) 99 (0, 0))) := (HB1.out.block _ (Nat.lt_of_lt_of_le HFL.out HFH.out.2.2.1.size)).trans HFF.out
  obtain ⟨f0, f1, f2, f3, f4⟩ := fill_cells HF1.out
  have HX1 : Hid (w1.rangeAt pb po (cellsOf x)) := range_bel (range_bel HX.out HFH.out.2.2.1 (Nat.le_refl _)) HB1.out (Nat.le_refl _)
  have HID : Hid ((Tryd.prog.info? 24).map (·.size) = some (cellsOf x).length) := by show _ = _; rw [size24, cellsOf_length, HXL.out]
  have hpz : (0 : Int) < (pn : Int) := by omega
  have HN1 : Hid ((w1.alloc (.cells #[Value.int IntKind.u8 0, Value.int IntKind.u8 0, Value.int IntKind.u8 0, Value.int IntKind.u8 0, Value.int IntKind.u8 0, Value.int IntKind.u8 0, Value.int IntKind.u8 0, Value.int IntKind.u8 0, Value.int IntKind.u8 0, Value.int IntKind.u8 0, Value.int IntKind.u8 0, Value.int IntKind.u8 0, Value.int IntKind.u8 0, Value.int IntKind.u8 0, Value.int IntKind.u8 0, Value.int IntKind.u8 0, Value.int IntKind.u8 0, Value.int IntKind.u8 0, Value.int IntKind.u8 0, Value.int IntKind.u8 0, Value.int IntKind.u8 0, Value.int IntKind.u8 0, Value.int IntKind.u8 0, Value.int IntKind.u8 0, Value.int IntKind.u8 0, Value.int IntKind.u8 0, Value.int IntKind.u8 0, Value.int IntKind.u8 0, Value.int IntKind.u8 0, Value.int IntKind.u8 0, Value.int IntKind.u8 0, Value.int IntKind.u8 0] 24)).heap[w1.heap.size]? = some (.cells #[Value.int IntKind.u8 0, Value.int IntKind.u8 0, Value.int IntKind.u8 0, Value.int IntKind.u8 0, Value.int IntKind.u8 0, Value.int IntKind.u8 0, Value.int IntKind.u8 0, Value.int IntKind.u8 0, Value.int IntKind.u8 0, Value.int IntKind.u8 0, Value.int IntKind.u8 0, Value.int IntKind.u8 0, Value.int IntKind.u8 0, Value.int IntKind.u8 0, Value.int IntKind.u8 0, Value.int IntKind.u8 0, Value.int IntKind.u8 0, Value.int IntKind.u8 0, Value.int IntKind.u8 0, Value.int IntKind.u8 0, Value.int IntKind.u8 0, Value.int IntKind.u8 0, Value.int IntKind.u8 0, Value.int IntKind.u8 0, Value.int IntKind.u8 0, Value.int IntKind.u8 0, Value.int IntKind.u8 0, Value.int IntKind.u8 0, Value.int IntKind.u8 0, Value.int IntKind.u8 0, Value.int IntKind.u8 0, Value.int IntKind.u8 0] 24 (0, 0))) := heap_alloc_new w1 _
  go_upto_region 3 with (first | (refine wpList_load_mid rfl 24 (.tmp 20) rfl pb po rfl (cellsOf x) _ HX1.out Tryd.underlying24 rfl HID.out ?_) | (refine wpList_store_row rfl 24 (.tmp 5) (.tmp 21) rfl w1.heap.size (cellsOf x).toArray rfl rfl 24 _ HN1.out (by rw [size24, dig_size HXL.out]) (by rw [dig_size HXL.out]; rfl) (cells_all _) ?_))
  have HR2 := setRow_heap _ _ _ (cellsOf x).toArray _ _ HN1.out
  have HB2 : Below w1.heap.size w1 ((w1.alloc (.cells #[Value.int IntKind.u8 0, Value.int IntKind.u8 0, Value.int IntKind.u8 0, Value.int IntKind.u8 0, Value.int IntKind.u8 0, Value.int IntKind.u8 0, Value.int IntKind.u8 0, Value.int IntKind.u8 0, Value.int IntKind.u8 0, Value.int IntKind.u8 0, Value.int IntKind.u8 0, Value.int IntKind.u8 0, Value.int IntKind.u8 0, Value.int IntKind.u8 0, Value.int IntKind.u8 0, Value.int IntKind.u8 0, Value.int IntKind.u8 0, Value.int IntKind.u8 0, Value.int IntKind.u8 0, Value.int IntKind.u8 0, Value.int IntKind.u8 0, Value.int IntKind.u8 0, Value.int IntKind.u8 0, Value.int IntKind.u8 0, Value.int IntKind.u8 0, Value.int IntKind.u8 0, Value.int IntKind.u8 0, Value.int IntKind.u8 0, Value.int IntKind.u8 0, Value.int IntKind.u8 0, Value.int IntKind.u8 0, Value.int IntKind.u8 0] 24)).setRow w1.heap.size (cellsOf x).toArray) := below_row (bel_alloc w1 _) (Nat.le_refl _) _
  obtain ⟨W2, HW2⟩ : ∃ W, Hid ((w1.alloc (.cells #[Value.int IntKind.u8 0, Value.int IntKind.u8 0, Value.int IntKind.u8 0, Value.int IntKind.u8 0, Value.int IntKind.u8 0, Value.int IntKind.u8 0, Value.int IntKind.u8 0, Value.int IntKind.u8 0, Value.int IntKind.u8 0, Value.int IntKind.u8 0, Value.int IntKind.u8 0, Value.int IntKind.u8 0, Value.int IntKind.u8 0, Value.int IntKind.u8 0, Value.int IntKind.u8 0, Value.int IntKind.u8 0, Value.int IntKind.u8 0, Value.int IntKind.u8 0, Value.int IntKind.u8 0, Value.int IntKind.u8 0, Value.int IntKind.u8 0, Value.int IntKind.u8 0, Value.int IntKind.u8 0, Value.int IntKind.u8 0, Value.int IntKind.u8 0, Value.int IntKind.u8 0, Value.int IntKind.u8 0, Value.int IntKind.u8 0, Value.int IntKind.u8 0, Value.int IntKind.u8 0, Value.int IntKind.u8 0, Value.int IntKind.u8 0] 24)).setRow w1.heap.size (cellsOf x).toArray = W) := ⟨_, rfl⟩
  rw [HW2.out] at HR2 HB2 ⊢
  have HR2 : Hid _ := HR2
  have HB2 : Hid (Below w1.heap.size w1 W2) := HB2
  have HFL1 : Hid (f < w1.heap.size) := (Array.getElem?_eq_some_iff.1 HF1.out).1
  have HF2 : Hid (W2.heap[f]? = some (.cells (fillC z c d qo qn qc (some ⟨pb, po, none⟩) pn pc) 99 (0, 0))) := (HB2.out.block _ HFL1.out).trans HF1.out
  clear HW2 HN1 f0 f1 f2 f3 f4
  obtain ⟨f0, f1, f2, f3, f4⟩ := fill_cells HF2.out
  have z4 := frozen_of_row W2 f 4 _ _ HF2.out
  have hp1 : (1 : Int) ≤ (pn : Int) := by omega
  have hp2 : (pn : Int) ≤ (pc : Int) := by omega
  go_upto_region 4 with fail
  rw [HNX.out]
  obtain ⟨g1, g2⟩ := set_path HF2.out nx (pn - 1) (pc - 1)
  obtain ⟨W3, HW3⟩ : ∃ W, Hid (W2.setCell ⟨f, 4, none⟩ (.slice nx (pn - 1) (pc - 1)) = W) := ⟨_, rfl⟩
  rw [HW3.out] at g1 g2 ⊢
  have HG1 : Hid _ := g1
  have HG2 : Hid (Chg f W2 W3) := g2
  have HX3 : Hid (W3.heap[w1.heap.size]? = some (.cells (cellsOf x).toArray 24 (0, 0))) := (g2.block _ (Array.getElem?_eq_some_iff.1 HR2.out).1 (by have := HFL1.out; omega)).trans HR2.out
  have HZ3 : Hid (W3.heap[w.heap.size + 1]? = some (.cells #[Value.int IntKind.u8 0, Value.int IntKind.u8 0, Value.int IntKind.u8 0, Value.int IntKind.u8 0, Value.int IntKind.u8 0, Value.int IntKind.u8 0, Value.int IntKind.u8 0, Value.int IntKind.u8 0, Value.int IntKind.u8 0, Value.int IntKind.u8 0, Value.int IntKind.u8 0, Value.int IntKind.u8 0, Value.int IntKind.u8 0, Value.int IntKind.u8 0, Value.int IntKind.u8 0, Value.int IntKind.u8 0, Value.int IntKind.u8 0, Value.int IntKind.u8 0, Value.int IntKind.u8 0, Value.int IntKind.u8 0, Value.int IntKind.u8 0, Value.int IntKind.u8 0, Value.int IntKind.u8 0, Value.int IntKind.u8 0, Value.int IntKind.u8 0, Value.int IntKind.u8 0, Value.int IntKind.u8 0, Value.int IntKind.u8 0, Value.int IntKind.u8 0, Value.int IntKind.u8 0, Value.int IntKind.u8 0, Value.int IntKind.u8 0] 24 (0, 0))) := by
    show _ = _
    have h1 := HB1.out.size
    have h2 := HFH.out.2.2.2
    have h3 := HB2.out.size
    rw [g2.block _ (by omega) (by have := HFL.out; omega), HB2.out.block _ (by omega), HB1.out.block _ (by omega)]
    exact HFH.out.2.1
  have HIX : Hid ((Tryd.prog.info? 24).map (·.size) = some (cellsOf x).toArray.size) := by show _ = _; rw [size24, dig_size HXL.out]
  clear g1 g2 HW3 f0 f1 f2 f3 f4 z4 hp hpc hp1 hp2 hpz
  go_wp2_with (first | (refine wpList_load_row rfl 24 (.tmp 5) rfl w1.heap.size rfl 24 (cellsOf x).toArray (0, 0) _ HX3.out Tryd.underlying24 rfl HIX.out ?_) | (refine wpList_store_row rfl 24 (.tmp 4) (.tmp 30) rfl (w.heap.size + 1) (cellsOf x).toArray rfl rfl 24 _ HZ3.out (by rw [size24, dig_size HXL.out]) (by rw [dig_size HXL.out]; rfl) (cells_all _) ?_))
  refine bodyPost_ret (results_cell_row rfl _ _ (w.heap.size + 1) 24 (cellsOf x).toArray (0, 0) _ rfl (setRow_heap _ _ _ _ _ _ HZ3.out) Tryd.underlying24 rfl (by rw [size24, dig_size HXL.out])) rfl ?_
  have hc3 : Chg f w W3 := ((chg_of_below HFH.out.2.2.1 (Nat.le_refl _)).trans ((chg_of_below HB1.out (Nat.le_refl _)).trans (chg_of_below HB2.out (Nat.le_refl _)))).trans HG2.out
  refine ⟨rfl, ?_, chg_row_new hc3 _ (by omega)⟩
  rw [((Chg.refl (w.heap.size + 1) W3).row _).block f (by have := HFL.out; have := hc3.size; omega) (by have := HFL.out; omega)]
  exact HG1.out
end Go.Proofs.YtaebpnednhkfhaaDoor
