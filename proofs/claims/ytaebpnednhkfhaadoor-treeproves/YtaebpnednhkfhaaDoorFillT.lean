/-
  What tree.filling's root answers of a part with both: a contract over this translation.
-/
import Derived.Test.YtaebpnednhkfhaaDoorFillW
namespace Go.Proofs.YtaebpnednhkfhaaDoor
open Go.RowKit
theorem chg_cell {w w' : World} {f : Nat} {a : Addr} {v : Value} (h : Chg f w w') (hc : w.cell? a = some v) (hne : a.block ≠ f) : w'.cell? a = some v := by
  rw [World.cell?_of_block (h.block a.block (World.block_lt_of_cell? w a hc) hne)]; exact hc
theorem chg_range {w w' : World} {f g o : Nat} {cs : List Value} (h : Chg f w w') (hc : w.rangeAt g o cs) (hne : g ≠ f) : w'.rangeAt g o cs := fun j v hv => chg_cell h (hc j v hv) hne
set_option maxHeartbeats 4000000 in
set_option maxRecDepth 100000 in
theorem fill_two (a b c d m : Nat) (z : Int) (qo : Option Addr) (qn qc f : Nat) (po : Option Addr) (pn pc : Nat) (l r : List UInt8) (R1 R2 : Option Addr → Nat → Nat → Prop) (w : World) (h1 : ¬ (b ≤ c ∨ d ≤ a)) (h2 : ¬ (c ≤ a ∧ b ≤ d)) (h3 : 2 ≤ b - a) (hb : b ≤ 9223372036854775807) (hm : a + halfN (b - a) = m) (hf : w.heap[f]? = some (.cells (fillC z c d qo qn qc po pn pc) 99 (0, 0))) (hll : l.length = 32) (hrl : r.length = 32) (hf0 : f ≠ 0) (hK : WW w 0 ks) (hz : -9223372036854775808 ≤ z ∧ z ≤ 9223372036854775807)
    (H1 : ∀ W, Chg f w W → W.heap[f]? = some (.cells (fillC z c d qo qn qc po pn pc) 99 (0, 0)) → Calls Tryd.prog 69 #[.pointer (some ⟨f, 0, none⟩), .agg #[.int .i64 (a : Int), .int .i64 (m : Int)]] W fun e w' => e = .returned (dv l) ∧ (∃ po2 pn2 pc2, R1 po2 pn2 pc2 ∧ w'.heap[f]? = some (.cells (fillC z c d qo qn qc po2 pn2 pc2) 99 (0, 0))) ∧ Chg f W w')
    (H2 : ∀ po2 pn2 pc2 W, R1 po2 pn2 pc2 → Chg f w W → W.heap[f]? = some (.cells (fillC z c d qo qn qc po2 pn2 pc2) 99 (0, 0)) → Calls Tryd.prog 69 #[.pointer (some ⟨f, 0, none⟩), .agg #[.int .i64 (m : Int), .int .i64 (b : Int)]] W fun e w' => e = .returned (dv r) ∧ (∃ po3 pn3 pc3, R2 po3 pn3 pc3 ∧ w'.heap[f]? = some (.cells (fillC z c d qo qn qc po3 pn3 pc3) 99 (0, 0))) ∧ Chg f W w') :
    Calls Tryd.prog 69 #[.pointer (some ⟨f, 0, none⟩), sv a b] w fun e w' => e = .returned (dv (nodeD z l r)) ∧ (∃ po3 pn3 pc3, R2 po3 pn3 pc3 ∧ w'.heap[f]? = some (.cells (fillC z c d qo qn qc po3 pn3 pc3) 99 (0, 0))) ∧ Chg f w w' := by
  have HA : Hid (∀ W, Calls Tryd.prog 85 #[.agg #[.int .i64 (a : Int), .int .i64 (b : Int)], .agg #[.int .i64 (c : Int), .int .i64 (d : Int)]] W fun e w' => e = .returned (.bool false) ∧ Below W.heap.size W w') := fun W => by
    have h := apart_any a b c d W
    rw [decide_eq_false h1] at h
    exact h
  have HI : Hid (∀ W, Calls Tryd.prog 86 #[.agg #[.int .i64 (a : Int), .int .i64 (b : Int)], .agg #[.int .i64 (c : Int), .int .i64 (d : Int)]] W fun e w' => e = .returned (.bool false) ∧ Below W.heap.size W w') := fun W => by
    have h := within_any a b c d W
    rw [decide_eq_false h2] at h
    exact h
  have HH : Hid (∀ W, Calls Tryd.prog 58 #[.agg #[.int .i64 (a : Int), .int .i64 (b : Int)]] W fun e w' => e = .returned (.tuple #[.agg #[.int .i64 (a : Int), .int .i64 (m : Int)], .agg #[.int .i64 (m : Int), .int .i64 (b : Int)]]) ∧ Below W.heap.size W w') := fun W => by
    have h := halves_any a b W (by omega) hb
    rw [hm] at h
    exact h
  have HFW : Hid _ := hf
  have HFL : Hid (f < w.heap.size) := (Array.getElem?_eq_some_iff.1 hf).1
  have HN : Hid (∀ W, Chg f w W → Calls Tryd.prog 26 #[.agg #[.int .i64 z], .agg (cellsOf l).toArray, .agg (cellsOf r).toArray] W fun e w' => e = .returned (dv (nodeD z l r)) ∧ Below W.heap.size W w') := fun W hW => by
    have hl := HFL.out
    exact node_any z l r W hll hrl (hK.chg hW (by omega) (by omega)) (by have := hW.size; omega) hz
  have HLL : Hid (l.length = 32) := hll
  have HRL : Hid (r.length = 32) := hrl
  have hdl := nodeD_length z l r
  obtain ⟨x, HXD⟩ : ∃ x, Hid (nodeD z l r = x) := ⟨_, rfl⟩
  rw [HXD.out] at hdl HN ⊢
  have HXL : Hid (x.length = 32) := hdl
  have HC1 : Hid _ := H1
  have HC2 : Hid _ := H2
  clear h1 h2 h3 hb hm hf hll hrl hf0 hK hz hdl H1 H2
  unfold sv
  go_enter Tryd.func69, Tryd.ntmps69
  go_upto_region 1 with fail
  have HF0 := frame2 w (Obj.cells #[.int .i64 (a : Int), .int .i64 (b : Int)] 78) #[Value.int IntKind.u8 0, Value.int IntKind.u8 0, Value.int IntKind.u8 0, Value.int IntKind.u8 0, Value.int IntKind.u8 0, Value.int IntKind.u8 0, Value.int IntKind.u8 0, Value.int IntKind.u8 0, Value.int IntKind.u8 0, Value.int IntKind.u8 0, Value.int IntKind.u8 0, Value.int IntKind.u8 0, Value.int IntKind.u8 0, Value.int IntKind.u8 0, Value.int IntKind.u8 0, Value.int IntKind.u8 0, Value.int IntKind.u8 0, Value.int IntKind.u8 0, Value.int IntKind.u8 0, Value.int IntKind.u8 0, Value.int IntKind.u8 0, Value.int IntKind.u8 0, Value.int IntKind.u8 0, Value.int IntKind.u8 0, Value.int IntKind.u8 0, Value.int IntKind.u8 0, Value.int IntKind.u8 0, Value.int IntKind.u8 0, Value.int IntKind.u8 0, Value.int IntKind.u8 0, Value.int IntKind.u8 0, Value.int IntKind.u8 0] 24
  obtain ⟨W0, HW0⟩ : ∃ W, Hid ((w.alloc (Obj.cells #[.int .i64 (a : Int), .int .i64 (b : Int)] 78)).alloc (Obj.cells #[Value.int IntKind.u8 0, Value.int IntKind.u8 0, Value.int IntKind.u8 0, Value.int IntKind.u8 0, Value.int IntKind.u8 0, Value.int IntKind.u8 0, Value.int IntKind.u8 0, Value.int IntKind.u8 0, Value.int IntKind.u8 0, Value.int IntKind.u8 0, Value.int IntKind.u8 0, Value.int IntKind.u8 0, Value.int IntKind.u8 0, Value.int IntKind.u8 0, Value.int IntKind.u8 0, Value.int IntKind.u8 0, Value.int IntKind.u8 0, Value.int IntKind.u8 0, Value.int IntKind.u8 0, Value.int IntKind.u8 0, Value.int IntKind.u8 0, Value.int IntKind.u8 0, Value.int IntKind.u8 0, Value.int IntKind.u8 0, Value.int IntKind.u8 0, Value.int IntKind.u8 0, Value.int IntKind.u8 0, Value.int IntKind.u8 0, Value.int IntKind.u8 0, Value.int IntKind.u8 0, Value.int IntKind.u8 0, Value.int IntKind.u8 0] 24) = W) := ⟨_, rfl⟩
  rw [HW0.out] at HF0 ⊢
  have HFH : Hid _ := HF0
  have HFF : Hid (W0.heap[f]? = some (.cells (fillC z c d qo qn qc po pn pc) 99 (0, 0))) := (HF0.2.2.1.block _ HFL.out).trans HFW.out
  clear HF0 HW0
  have HS : Hid (∀ W, Below W0.heap.size W0 W → W.cell? ⟨w.heap.size, 0, none⟩ = some (.int .i64 (a : Int)) ∧ W.cell? ⟨w.heap.size, 1, none⟩ = some (.int .i64 (b : Int)) ∧ W.cell? ⟨f, 0, none⟩ = some (.int .i64 z) ∧ W.cell? ⟨f, 1, none⟩ = some (.int .i64 (c : Int)) ∧ W.cell? ⟨f, 2, none⟩ = some (.int .i64 (d : Int)) ∧ W.cell? ⟨f, 3, none⟩ = some (.slice qo qn qc)) := fun W hW =>
    ⟨bel_cell2 hW (Nat.le_refl _) (span_row HFH.out.1).1, bel_cell2 hW (Nat.le_refl _) (span_row HFH.out.1).2, bel_cell2 hW (Nat.le_refl _) (fill_cells HFF.out).1, bel_cell2 hW (Nat.le_refl _) (fill_cells HFF.out).2.1, bel_cell2 hW (Nat.le_refl _) (fill_cells HFF.out).2.2.1, bel_cell2 hW (Nat.le_refl _) (fill_cells HFF.out).2.2.2.1⟩
  refine wp_region_held_drew (S := fun W => W.cell? ⟨w.heap.size, 0, none⟩ = some (.int .i64 (a : Int)) ∧ W.cell? ⟨w.heap.size, 1, none⟩ = some (.int .i64 (b : Int)) ∧ W.cell? ⟨f, 0, none⟩ = some (.int .i64 z) ∧ W.cell? ⟨f, 1, none⟩ = some (.int .i64 (c : Int)) ∧ W.cell? ⟨f, 2, none⟩ = some (.int .i64 (d : Int)) ∧ W.cell? ⟨f, 3, none⟩ = some (.slice qo qn qc)) (by kernel_rfl) (HS.out _ (Below.drew (Below.refl _ _))) (fun hS => ?_)
  refine wpAnyH_take (i := 0) (v := ?_) rfl (by kernel_rfl) (by kernel_rfl) (by kernel_rfl) (fun _ _ _ h => h) (Or.inl ⟨by rfl, ?_⟩) (by assumption) ?_
  rotate_left
  · (intro w hSw; (try dsimp only at hSw); go_simp; try with_reducible rfl)
  simp only [Act.put, List.getElem_toArray, List.getElem_cons_zero, List.setIfInBounds_toArray, List.set_cons_zero, List.set_cons_succ]
  refine wpAnyH_take (i := 1) (v := ?_) rfl (by kernel_rfl) (by kernel_rfl) (by kernel_rfl) (fun _ _ _ h => h) (Or.inl ⟨by rfl, ?_⟩) (by assumption) ?_
  rotate_left
  · (intro w hSw; (try dsimp only at hSw); go_simp; try with_reducible rfl)
  simp only [Act.put, List.getElem_toArray, List.getElem_cons_zero, List.getElem_cons_succ, List.setIfInBounds_toArray, List.set_cons_zero, List.set_cons_succ]
  refine wpAnyH_take (i := 2) (v := ?_) rfl (by kernel_rfl) (by kernel_rfl) (by kernel_rfl) (fun _ _ _ h => h) (Or.inl ⟨by rfl, ?_⟩) (by assumption) ?_
  rotate_left
  · (intro w hSw; (try dsimp only at hSw); go_simp; try with_reducible rfl)
  simp only [Act.put, List.getElem_toArray, List.getElem_cons_zero, List.getElem_cons_succ, List.setIfInBounds_toArray, List.set_cons_zero, List.set_cons_succ]
  refine wpAnyH_take (i := 3) (v := ?_) rfl (by kernel_rfl) (by kernel_rfl) (by kernel_rfl) (fun _ _ _ h => h) (Or.inl ⟨by rfl, ?_⟩) (by assumption) ?_
  rotate_left
  · (intro w hSw; (try dsimp only at hSw); go_simp; try with_reducible rfl)
  simp only [Act.put, List.getElem_toArray, List.getElem_cons_zero, List.getElem_cons_succ, List.setIfInBounds_toArray, List.set_cons_zero, List.set_cons_succ]
  refine wpAnyH_take (i := 4) (v := ?_) rfl (by kernel_rfl) (by kernel_rfl) (by kernel_rfl) (fun _ _ _ h => h) (Or.inl ⟨by rfl, ?_⟩) (by assumption) ?_
  rotate_left
  · (intro w hSw; (try dsimp only at hSw); go_simp; try with_reducible rfl)
  simp only [Act.put, List.getElem_toArray, List.getElem_cons_zero, List.getElem_cons_succ, List.setIfInBounds_toArray, List.set_cons_zero, List.set_cons_succ]
  refine wpAnyH_ready (rs := [5]) (by kernel_rfl) (by simp) ?_
  refine AllReadyH.cons rfl (fun K hK => ?_) AllReadyH.nil
  go_simp
  refine (HA.out _).mono ?_
  rintro e w1 ⟨rfl, hb1⟩
  have HB1 : Hid (Below W0.heap.size W0 w1) := (Below.drew (Below.refl _ _)).trans hb1
  go_wp2_with fail
  refine hK.out _ _ (HS.out _ HB1.out) (fun hHeld2 => ?_)
  clear hK K hb1
  refine wpAnyH_done (by kernel_rfl) ?_ _
  clear hS hHeld2
  go_upto_region 5 with fail
  refine wp_region_held_drew (S := fun W => W.cell? ⟨w.heap.size, 0, none⟩ = some (.int .i64 (a : Int)) ∧ W.cell? ⟨w.heap.size, 1, none⟩ = some (.int .i64 (b : Int)) ∧ W.cell? ⟨f, 0, none⟩ = some (.int .i64 z) ∧ W.cell? ⟨f, 1, none⟩ = some (.int .i64 (c : Int)) ∧ W.cell? ⟨f, 2, none⟩ = some (.int .i64 (d : Int)) ∧ W.cell? ⟨f, 3, none⟩ = some (.slice qo qn qc)) (by kernel_rfl) (HS.out _ (Below.drew HB1.out)) (fun hS => ?_)
  refine wpAnyH_take (i := 0) (v := ?_) rfl (by kernel_rfl) (by kernel_rfl) (by kernel_rfl) (fun _ _ _ h => h) (Or.inl ⟨by rfl, ?_⟩) (by assumption) ?_
  rotate_left
  · (intro w hSw; (try dsimp only at hSw); go_simp; try with_reducible rfl)
  simp only [Act.put, List.getElem_toArray, List.getElem_cons_zero, List.setIfInBounds_toArray, List.set_cons_zero, List.set_cons_succ]
  refine wpAnyH_take (i := 1) (v := ?_) rfl (by kernel_rfl) (by kernel_rfl) (by kernel_rfl) (fun _ _ _ h => h) (Or.inl ⟨by rfl, ?_⟩) (by assumption) ?_
  rotate_left
  · (intro w hSw; (try dsimp only at hSw); go_simp; try with_reducible rfl)
  simp only [Act.put, List.getElem_toArray, List.getElem_cons_zero, List.getElem_cons_succ, List.setIfInBounds_toArray, List.set_cons_zero, List.set_cons_succ]
  refine wpAnyH_take (i := 2) (v := ?_) rfl (by kernel_rfl) (by kernel_rfl) (by kernel_rfl) (fun _ _ _ h => h) (Or.inl ⟨by rfl, ?_⟩) (by assumption) ?_
  rotate_left
  · (intro w hSw; (try dsimp only at hSw); go_simp; try with_reducible rfl)
  simp only [Act.put, List.getElem_toArray, List.getElem_cons_zero, List.getElem_cons_succ, List.setIfInBounds_toArray, List.set_cons_zero, List.set_cons_succ]
  refine wpAnyH_take (i := 3) (v := ?_) rfl (by kernel_rfl) (by kernel_rfl) (by kernel_rfl) (fun _ _ _ h => h) (Or.inl ⟨by rfl, ?_⟩) (by assumption) ?_
  rotate_left
  · (intro w hSw; (try dsimp only at hSw); go_simp; try with_reducible rfl)
  simp only [Act.put, List.getElem_toArray, List.getElem_cons_zero, List.getElem_cons_succ, List.setIfInBounds_toArray, List.set_cons_zero, List.set_cons_succ]
  refine wpAnyH_take (i := 4) (v := ?_) rfl (by kernel_rfl) (by kernel_rfl) (by kernel_rfl) (fun _ _ _ h => h) (Or.inl ⟨by rfl, ?_⟩) (by assumption) ?_
  rotate_left
  · (intro w hSw; (try dsimp only at hSw); go_simp; try with_reducible rfl)
  simp only [Act.put, List.getElem_toArray, List.getElem_cons_zero, List.getElem_cons_succ, List.setIfInBounds_toArray, List.set_cons_zero, List.set_cons_succ]
  refine wpAnyH_ready (rs := [5]) (by kernel_rfl) (by simp) ?_
  refine AllReadyH.cons rfl (fun K hK => ?_) AllReadyH.nil
  go_simp
  refine (HI.out _).mono ?_
  rintro e w2 ⟨rfl, hb2⟩
  have HB2 : Hid (Below W0.heap.size W0 w2) := (Below.drew HB1.out).trans (hb2.mono HB1.out.size)
  go_wp2_with fail
  refine hK.out _ _ (HS.out _ HB2.out) (fun hHeld2 => ?_)
  clear hK K hb2
  refine wpAnyH_done (by kernel_rfl) ?_ _
  clear hS hHeld2
  obtain ⟨q0, q1, -⟩ := HS.out _ HB2.out
  go_wp2_with fail
  refine (HH.out _).mono ?_
  rintro e w3 ⟨rfl, hb3⟩
  have HB3 : Hid (Below W0.heap.size W0 w3) := HB2.out.trans (hb3.mono HB2.out.size)
  clear hb3 q0 q1
  go_upto_region 8 with fail
  obtain ⟨W4, HW4⟩ : ∃ W, Hid (W = (w3.alloc (.cells #[.int .i64 (a : Int), .int .i64 (m : Int)] 78)).alloc (.cells #[.int .i64 (m : Int), .int .i64 (b : Int)] 78)) := ⟨_, rfl⟩
  obtain ⟨d0, d1, d2, d3, hb4⟩ := two_cells w3 a m m b W4 HW4.out
  rw [← HW4.out]
  have HB4 : Hid (Below W0.heap.size W0 W4) := HB3.out.trans (hb4.mono HB3.out.size)
  have HC4 : Hid (Chg f w W4) := (chg_of_below HFH.out.2.2.1 (Nat.le_refl _)).trans (chg_of_below HB4.out (Nat.le_refl _))
  have HF4 : Hid (W4.heap[f]? = some (.cells (fillC z c d qo qn qc po pn pc) 99 (0, 0))) := (HB4.out.block _ (by have := HFL.out; rw [HFH.out.2.2.2]; omega)).trans HFF.out
  have HD23 : Hid _ := And.intro d2 d3
  clear hb4 d2 d3
  go_wp2_with fail
  refine (HC1.out _ HC4.out HF4.out).mono ?_
  rintro e w5 ⟨rfl, ⟨po2, pn2, pc2, hr1, hf5⟩, hc5⟩
  have HC5 : Hid (Chg f W4 w5) := hc5
  have HF5 : Hid _ := hf5
  have HR1 : Hid (R1 po2 pn2 pc2) := hr1
  clear hc5 hf5 hr1 d0 d1
  unfold dv
  have HN5 : Hid ((w5.alloc (.cells #[Value.int IntKind.u8 0, Value.int IntKind.u8 0, Value.int IntKind.u8 0, Value.int IntKind.u8 0, Value.int IntKind.u8 0, Value.int IntKind.u8 0, Value.int IntKind.u8 0, Value.int IntKind.u8 0, Value.int IntKind.u8 0, Value.int IntKind.u8 0, Value.int IntKind.u8 0, Value.int IntKind.u8 0, Value.int IntKind.u8 0, Value.int IntKind.u8 0, Value.int IntKind.u8 0, Value.int IntKind.u8 0, Value.int IntKind.u8 0, Value.int IntKind.u8 0, Value.int IntKind.u8 0, Value.int IntKind.u8 0, Value.int IntKind.u8 0, Value.int IntKind.u8 0, Value.int IntKind.u8 0, Value.int IntKind.u8 0, Value.int IntKind.u8 0, Value.int IntKind.u8 0, Value.int IntKind.u8 0, Value.int IntKind.u8 0, Value.int IntKind.u8 0, Value.int IntKind.u8 0, Value.int IntKind.u8 0, Value.int IntKind.u8 0] 24)).heap[w5.heap.size]? = some (.cells #[Value.int IntKind.u8 0, Value.int IntKind.u8 0, Value.int IntKind.u8 0, Value.int IntKind.u8 0, Value.int IntKind.u8 0, Value.int IntKind.u8 0, Value.int IntKind.u8 0, Value.int IntKind.u8 0, Value.int IntKind.u8 0, Value.int IntKind.u8 0, Value.int IntKind.u8 0, Value.int IntKind.u8 0, Value.int IntKind.u8 0, Value.int IntKind.u8 0, Value.int IntKind.u8 0, Value.int IntKind.u8 0, Value.int IntKind.u8 0, Value.int IntKind.u8 0, Value.int IntKind.u8 0, Value.int IntKind.u8 0, Value.int IntKind.u8 0, Value.int IntKind.u8 0, Value.int IntKind.u8 0, Value.int IntKind.u8 0, Value.int IntKind.u8 0, Value.int IntKind.u8 0, Value.int IntKind.u8 0, Value.int IntKind.u8 0, Value.int IntKind.u8 0, Value.int IntKind.u8 0, Value.int IntKind.u8 0, Value.int IntKind.u8 0] 24 (0, 0))) := heap_alloc_new w5 _
  go_upto_region 9 with (refine wpList_store_row rfl 24 (.tmp 8) (.tmp 70) rfl w5.heap.size (cellsOf l).toArray rfl rfl 24 _ HN5.out (by rw [size24, dig_size HLL.out]) (by rw [dig_size HLL.out]; rfl) (cells_all _) ?_)
  have HR6 := setRow_heap _ _ _ (cellsOf l).toArray _ _ HN5.out
  have HB6 : Below w5.heap.size w5 ((w5.alloc (.cells #[Value.int IntKind.u8 0, Value.int IntKind.u8 0, Value.int IntKind.u8 0, Value.int IntKind.u8 0, Value.int IntKind.u8 0, Value.int IntKind.u8 0, Value.int IntKind.u8 0, Value.int IntKind.u8 0, Value.int IntKind.u8 0, Value.int IntKind.u8 0, Value.int IntKind.u8 0, Value.int IntKind.u8 0, Value.int IntKind.u8 0, Value.int IntKind.u8 0, Value.int IntKind.u8 0, Value.int IntKind.u8 0, Value.int IntKind.u8 0, Value.int IntKind.u8 0, Value.int IntKind.u8 0, Value.int IntKind.u8 0, Value.int IntKind.u8 0, Value.int IntKind.u8 0, Value.int IntKind.u8 0, Value.int IntKind.u8 0, Value.int IntKind.u8 0, Value.int IntKind.u8 0, Value.int IntKind.u8 0, Value.int IntKind.u8 0, Value.int IntKind.u8 0, Value.int IntKind.u8 0, Value.int IntKind.u8 0, Value.int IntKind.u8 0] 24)).setRow w5.heap.size (cellsOf l).toArray) := below_row (bel_alloc w5 _) (Nat.le_refl _) _
  obtain ⟨W6, HW6⟩ : ∃ W, Hid ((w5.alloc (.cells #[Value.int IntKind.u8 0, Value.int IntKind.u8 0, Value.int IntKind.u8 0, Value.int IntKind.u8 0, Value.int IntKind.u8 0, Value.int IntKind.u8 0, Value.int IntKind.u8 0, Value.int IntKind.u8 0, Value.int IntKind.u8 0, Value.int IntKind.u8 0, Value.int IntKind.u8 0, Value.int IntKind.u8 0, Value.int IntKind.u8 0, Value.int IntKind.u8 0, Value.int IntKind.u8 0, Value.int IntKind.u8 0, Value.int IntKind.u8 0, Value.int IntKind.u8 0, Value.int IntKind.u8 0, Value.int IntKind.u8 0, Value.int IntKind.u8 0, Value.int IntKind.u8 0, Value.int IntKind.u8 0, Value.int IntKind.u8 0, Value.int IntKind.u8 0, Value.int IntKind.u8 0, Value.int IntKind.u8 0, Value.int IntKind.u8 0, Value.int IntKind.u8 0, Value.int IntKind.u8 0, Value.int IntKind.u8 0, Value.int IntKind.u8 0] 24)).setRow w5.heap.size (cellsOf l).toArray = W) := ⟨_, rfl⟩
  rw [HW6.out] at HR6 HB6 ⊢
  have HR6 : Hid _ := HR6
  have HB6 : Hid (Below w5.heap.size w5 W6) := HB6
  have HC46 : Hid (Chg f W4 W6) := HC5.out.trans (chg_of_below HB6.out (Nat.le_refl _))
  have HF6 : Hid (W6.heap[f]? = some (.cells (fillC z c d qo qn qc po2 pn2 pc2) 99 (0, 0))) := (HB6.out.block _ (Array.getElem?_eq_some_iff.1 HF5.out).1).trans HF5.out
  have HNE : Hid (w3.heap.size + 1 ≠ f ∧ w.heap.size + 1 ≠ f ∧ w.heap.size + 1 < W4.heap.size) := by
    have h1 := HFL.out
    have h2 := HFH.out.2.2.2
    have h3 := HB3.out.size
    have h4 := HB4.out.size
    show _ ∧ _ ∧ _
    omega
  have d2 := chg_cell HC46.out HD23.out.1 HNE.out.1
  have d3 := chg_cell HC46.out HD23.out.2 HNE.out.1
  clear HN5 HW6
  go_wp2_with fail
  refine (HC2.out _ _ _ _ HR1.out (HC4.out.trans HC46.out) HF6.out).mono ?_
  rintro e w7 ⟨rfl, ⟨po3, pn3, pc3, hr2, hf7⟩, hc7⟩
  have HC7 : Hid (Chg f W6 w7) := hc7
  have HF7 : Hid _ := hf7
  have HR2 : Hid (R2 po3 pn3 pc3) := hr2
  clear hc7 hf7 hr2 d2 d3
  unfold dv
  have HN7 : Hid ((w7.alloc (.cells #[Value.int IntKind.u8 0, Value.int IntKind.u8 0, Value.int IntKind.u8 0, Value.int IntKind.u8 0, Value.int IntKind.u8 0, Value.int IntKind.u8 0, Value.int IntKind.u8 0, Value.int IntKind.u8 0, Value.int IntKind.u8 0, Value.int IntKind.u8 0, Value.int IntKind.u8 0, Value.int IntKind.u8 0, Value.int IntKind.u8 0, Value.int IntKind.u8 0, Value.int IntKind.u8 0, Value.int IntKind.u8 0, Value.int IntKind.u8 0, Value.int IntKind.u8 0, Value.int IntKind.u8 0, Value.int IntKind.u8 0, Value.int IntKind.u8 0, Value.int IntKind.u8 0, Value.int IntKind.u8 0, Value.int IntKind.u8 0, Value.int IntKind.u8 0, Value.int IntKind.u8 0, Value.int IntKind.u8 0, Value.int IntKind.u8 0, Value.int IntKind.u8 0, Value.int IntKind.u8 0, Value.int IntKind.u8 0, Value.int IntKind.u8 0] 24)).heap[w7.heap.size]? = some (.cells #[Value.int IntKind.u8 0, Value.int IntKind.u8 0, Value.int IntKind.u8 0, Value.int IntKind.u8 0, Value.int IntKind.u8 0, Value.int IntKind.u8 0, Value.int IntKind.u8 0, Value.int IntKind.u8 0, Value.int IntKind.u8 0, Value.int IntKind.u8 0, Value.int IntKind.u8 0, Value.int IntKind.u8 0, Value.int IntKind.u8 0, Value.int IntKind.u8 0, Value.int IntKind.u8 0, Value.int IntKind.u8 0, Value.int IntKind.u8 0, Value.int IntKind.u8 0, Value.int IntKind.u8 0, Value.int IntKind.u8 0, Value.int IntKind.u8 0, Value.int IntKind.u8 0, Value.int IntKind.u8 0, Value.int IntKind.u8 0, Value.int IntKind.u8 0, Value.int IntKind.u8 0, Value.int IntKind.u8 0, Value.int IntKind.u8 0, Value.int IntKind.u8 0, Value.int IntKind.u8 0, Value.int IntKind.u8 0, Value.int IntKind.u8 0] 24 (0, 0))) := heap_alloc_new w7 _
  go_upto_region 10 with (refine wpList_store_row rfl 24 (.tmp 9) (.tmp 73) rfl w7.heap.size (cellsOf r).toArray rfl rfl 24 _ HN7.out (by rw [size24, dig_size HRL.out]) (by rw [dig_size HRL.out]; rfl) (cells_all _) ?_)
  have HR8 := setRow_heap _ _ _ (cellsOf r).toArray _ _ HN7.out
  have HB8 : Below w7.heap.size w7 ((w7.alloc (.cells #[Value.int IntKind.u8 0, Value.int IntKind.u8 0, Value.int IntKind.u8 0, Value.int IntKind.u8 0, Value.int IntKind.u8 0, Value.int IntKind.u8 0, Value.int IntKind.u8 0, Value.int IntKind.u8 0, Value.int IntKind.u8 0, Value.int IntKind.u8 0, Value.int IntKind.u8 0, Value.int IntKind.u8 0, Value.int IntKind.u8 0, Value.int IntKind.u8 0, Value.int IntKind.u8 0, Value.int IntKind.u8 0, Value.int IntKind.u8 0, Value.int IntKind.u8 0, Value.int IntKind.u8 0, Value.int IntKind.u8 0, Value.int IntKind.u8 0, Value.int IntKind.u8 0, Value.int IntKind.u8 0, Value.int IntKind.u8 0, Value.int IntKind.u8 0, Value.int IntKind.u8 0, Value.int IntKind.u8 0, Value.int IntKind.u8 0, Value.int IntKind.u8 0, Value.int IntKind.u8 0, Value.int IntKind.u8 0, Value.int IntKind.u8 0] 24)).setRow w7.heap.size (cellsOf r).toArray) := below_row (bel_alloc w7 _) (Nat.le_refl _) _
  obtain ⟨W8, HW8⟩ : ∃ W, Hid ((w7.alloc (.cells #[Value.int IntKind.u8 0, Value.int IntKind.u8 0, Value.int IntKind.u8 0, Value.int IntKind.u8 0, Value.int IntKind.u8 0, Value.int IntKind.u8 0, Value.int IntKind.u8 0, Value.int IntKind.u8 0, Value.int IntKind.u8 0, Value.int IntKind.u8 0, Value.int IntKind.u8 0, Value.int IntKind.u8 0, Value.int IntKind.u8 0, Value.int IntKind.u8 0, Value.int IntKind.u8 0, Value.int IntKind.u8 0, Value.int IntKind.u8 0, Value.int IntKind.u8 0, Value.int IntKind.u8 0, Value.int IntKind.u8 0, Value.int IntKind.u8 0, Value.int IntKind.u8 0, Value.int IntKind.u8 0, Value.int IntKind.u8 0, Value.int IntKind.u8 0, Value.int IntKind.u8 0, Value.int IntKind.u8 0, Value.int IntKind.u8 0, Value.int IntKind.u8 0, Value.int IntKind.u8 0, Value.int IntKind.u8 0, Value.int IntKind.u8 0] 24)).setRow w7.heap.size (cellsOf r).toArray = W) := ⟨_, rfl⟩
  rw [HW8.out] at HR8 HB8 ⊢
  have HR8 : Hid _ := HR8
  have HB8 : Hid (Below w7.heap.size w7 W8) := HB8
  have HC68 : Hid (Chg f W6 W8) := HC7.out.trans (chg_of_below HB8.out (Nat.le_refl _))
  have HF8 : Hid (W8.heap[f]? = some (.cells (fillC z c d qo qn qc po3 pn3 pc3) 99 (0, 0))) := (HB8.out.block _ (Array.getElem?_eq_some_iff.1 HF7.out).1).trans HF7.out
  have HLW : Hid (w5.heap.size < W6.heap.size ∧ w7.heap.size < W8.heap.size ∧ f < w5.heap.size ∧ f < w7.heap.size) := ⟨(Array.getElem?_eq_some_iff.1 HR6.out).1, (Array.getElem?_eq_some_iff.1 HR8.out).1, (Array.getElem?_eq_some_iff.1 HF5.out).1, (Array.getElem?_eq_some_iff.1 HF7.out).1⟩
  have HG8 : Hid (W8.rangeAt w5.heap.size 0 (cellsOf l)) := chg_range HC68.out (range_of HR6.out) (by have := HLW.out; omega)
  have HS8 : Hid (∀ W, Below W8.heap.size W8 W → W.cell? ⟨f, 0, none⟩ = some (.int .i64 z) ∧ W.rangeAt w5.heap.size 0 (cellsOf l) ∧ W.rangeAt w7.heap.size 0 (cellsOf r)) := fun W hW => ⟨bel_cell2 hW (Nat.le_refl _) (fill_cells HF8.out).1, range_bel HG8.out hW (Nat.le_refl _), range_bel (range_of HR8.out) hW (Nat.le_refl _)⟩
  have HC8 : Hid (Chg f w W8) := HC4.out.trans (HC46.out.trans HC68.out)
  have HZ8 : Hid (W8.heap[w.heap.size + 1]? = some (.cells #[Value.int IntKind.u8 0, Value.int IntKind.u8 0, Value.int IntKind.u8 0, Value.int IntKind.u8 0, Value.int IntKind.u8 0, Value.int IntKind.u8 0, Value.int IntKind.u8 0, Value.int IntKind.u8 0, Value.int IntKind.u8 0, Value.int IntKind.u8 0, Value.int IntKind.u8 0, Value.int IntKind.u8 0, Value.int IntKind.u8 0, Value.int IntKind.u8 0, Value.int IntKind.u8 0, Value.int IntKind.u8 0, Value.int IntKind.u8 0, Value.int IntKind.u8 0, Value.int IntKind.u8 0, Value.int IntKind.u8 0, Value.int IntKind.u8 0, Value.int IntKind.u8 0, Value.int IntKind.u8 0, Value.int IntKind.u8 0, Value.int IntKind.u8 0, Value.int IntKind.u8 0, Value.int IntKind.u8 0, Value.int IntKind.u8 0, Value.int IntKind.u8 0, Value.int IntKind.u8 0, Value.int IntKind.u8 0, Value.int IntKind.u8 0] 24 (0, 0))) := ((HC46.out.trans HC68.out).block _ HNE.out.2.2 HNE.out.2.1).trans ((HB4.out.block _ (by rw [HFH.out.2.2.2]; omega)).trans HFH.out.2.1)
  have HIL : Hid ((Tryd.prog.info? 24).map (·.size) = some (cellsOf l).length) := by show _ = _; rw [size24, cellsOf_length, HLL.out]
  have HIR : Hid ((Tryd.prog.info? 24).map (·.size) = some (cellsOf r).length) := by show _ = _; rw [size24, cellsOf_length, HRL.out]
  clear HN7 HW8
  refine wp_region_held_drew (S := fun W => W.cell? ⟨f, 0, none⟩ = some (.int .i64 z) ∧ W.rangeAt w5.heap.size 0 (cellsOf l) ∧ W.rangeAt w7.heap.size 0 (cellsOf r)) (by kernel_rfl) (HS8.out _ (Below.drew (Below.refl _ _))) (fun hS => ?_)
  refine wpAnyH_take (i := 0) (v := ?_) rfl (by kernel_rfl) (by kernel_rfl) (by kernel_rfl) (fun _ _ _ h => h) (Or.inl ⟨by rfl, ?_⟩) (by assumption) ?_
  rotate_left
  · (intro w hSw; (try dsimp only at hSw); go_simp; try with_reducible rfl)
  simp only [Act.put, List.getElem_toArray, List.getElem_cons_zero, List.setIfInBounds_toArray, List.set_cons_zero, List.set_cons_succ]
  refine wpAnyH_take (i := 1) (v := ?_) rfl (by kernel_rfl) (by kernel_rfl) (by kernel_rfl) (fun _ _ _ h => h) (Or.inl ⟨by rfl, ?_⟩) (by assumption) ?_
  rotate_left
  · (intro w hSw; (try dsimp only at hSw); go_simp; try with_reducible rfl)
  simp only [Act.put, List.getElem_toArray, List.getElem_cons_zero, List.getElem_cons_succ, List.setIfInBounds_toArray, List.set_cons_zero, List.set_cons_succ]
  refine wpAnyH_take (i := 2) (v := ?_) rfl (by kernel_rfl) (by kernel_rfl) (by kernel_rfl) (fun _ _ _ h => h) (Or.inl ⟨by rfl, ?_⟩) (by assumption) ?_
  rotate_left
  · (intro w hSw; (try dsimp only at hSw); go_simp; try with_reducible rfl)
  simp only [Act.put, List.getElem_toArray, List.getElem_cons_zero, List.getElem_cons_succ, List.setIfInBounds_toArray, List.set_cons_zero, List.set_cons_succ]
  refine wpAnyH_take (i := 3) (v := ?_) rfl (by kernel_rfl) (by kernel_rfl) (by kernel_rfl) (fun _ _ _ h => h) (Or.inl ⟨by rfl, ?_⟩) (by assumption) ?_
  rotate_left
  · (intro w hSw; (try dsimp only at hSw); go_simp; try with_reducible rfl)
  simp only [Act.put, List.getElem_toArray, List.getElem_cons_zero, List.getElem_cons_succ, List.setIfInBounds_toArray, List.set_cons_zero, List.set_cons_succ]
  refine wpAnyH_take (i := 4) (v := .agg (cellsOf l).toArray) rfl (by kernel_rfl) (by kernel_rfl) (by kernel_rfl) (fun _ _ _ h => h) (yieldsIf_load_mid (by rfl) 24 (.tmp 8) rfl w5.heap.size 0 rfl (cellsOf l) _ (fun _ h => h.2.1) Tryd.underlying24 rfl HIL.out) (by assumption) ?_
  simp only [Act.put, List.getElem_toArray, List.getElem_cons_zero, List.getElem_cons_succ, List.setIfInBounds_toArray, List.set_cons_zero, List.set_cons_succ]
  refine wpAnyH_take (i := 5) (v := .agg (cellsOf r).toArray) rfl (by kernel_rfl) (by kernel_rfl) (by kernel_rfl) (fun _ _ _ h => h) (yieldsIf_load_mid (by rfl) 24 (.tmp 9) rfl w7.heap.size 0 rfl (cellsOf r) _ (fun _ h => h.2.2) Tryd.underlying24 rfl HIR.out) (by assumption) ?_
  simp only [Act.put, List.getElem_toArray, List.getElem_cons_zero, List.getElem_cons_succ, List.setIfInBounds_toArray, List.set_cons_zero, List.set_cons_succ]
  refine wpAnyH_ready (rs := [6]) (by kernel_rfl) (by simp) ?_
  refine AllReadyH.cons rfl (fun K hK => ?_) AllReadyH.nil
  go_simp
  refine (HN.out _ HC8.out.drew).mono ?_
  rintro e w9 ⟨rfl, hb9⟩
  have HB9 : Hid (Below W8.heap.size W8 w9) := (Below.drew (Below.refl _ _)).trans hb9
  have HZ9 : Hid (w9.heap[w.heap.size + 1]? = some (.cells #[Value.int IntKind.u8 0, Value.int IntKind.u8 0, Value.int IntKind.u8 0, Value.int IntKind.u8 0, Value.int IntKind.u8 0, Value.int IntKind.u8 0, Value.int IntKind.u8 0, Value.int IntKind.u8 0, Value.int IntKind.u8 0, Value.int IntKind.u8 0, Value.int IntKind.u8 0, Value.int IntKind.u8 0, Value.int IntKind.u8 0, Value.int IntKind.u8 0, Value.int IntKind.u8 0, Value.int IntKind.u8 0, Value.int IntKind.u8 0, Value.int IntKind.u8 0, Value.int IntKind.u8 0, Value.int IntKind.u8 0, Value.int IntKind.u8 0, Value.int IntKind.u8 0, Value.int IntKind.u8 0, Value.int IntKind.u8 0, Value.int IntKind.u8 0, Value.int IntKind.u8 0, Value.int IntKind.u8 0, Value.int IntKind.u8 0, Value.int IntKind.u8 0, Value.int IntKind.u8 0, Value.int IntKind.u8 0, Value.int IntKind.u8 0] 24 (0, 0))) := (HB9.out.block _ (Array.getElem?_eq_some_iff.1 HZ8.out).1).trans HZ8.out
  unfold dv
  go_wp2_with fail
  refine hK.out _ _ (HS8.out _ HB9.out) (fun hHeld2 => ?_)
  clear hK K hb9
  refine wpAnyH_ready (rs := [7]) (by kernel_rfl) (by simp) ?_
  refine AllReadyH.cons rfl (fun K hK => ?_) AllReadyH.nil
  rw [if_pos (by rfl)]
  refine wp_store_row 24 (.tmp 4) (.tmp 80) rfl (w.heap.size + 1) (cellsOf x).toArray rfl rfl 24 _ HZ9.out (by rw [size24, dig_size HXL.out]) (by rw [dig_size HXL.out]; rfl) (cells_all _) ?_
  have HSZ : Hid (w.heap.size + 1 < w5.heap.size ∧ w5.heap.size < w7.heap.size) := by
    have h1 := HNE.out
    have h2 := HC5.out.size
    have h3 := HC7.out.size
    have h4 := HLW.out
    show _ ∧ _
    omega
  refine hK.out _ _ ?_ (fun hHeld2 => ?_)
  · obtain ⟨q0, q1, q2⟩ := HS8.out _ HB9.out
    exact ⟨cell_row_far q0 (show f ≠ w.heap.size + 1 by have := HNE.out; omega), range_far q1 (by have := HSZ.out; omega), range_far q2 (by have := HSZ.out; omega)⟩
  clear hK K
  refine wpAnyH_done (by kernel_rfl) ?_ _
  clear hS hHeld2
  go_wp2_with fail
  refine bodyPost_ret (results_cell_row rfl _ _ (w.heap.size + 1) 24 (cellsOf x).toArray (0, 0) _ rfl (setRow_heap _ _ _ _ _ _ HZ9.out) Tryd.underlying24 rfl (by rw [size24, dig_size HXL.out])) rfl ?_
  have hc9 : Chg f w w9 := HC8.out.trans (chg_of_below HB9.out (Nat.le_refl _))
  refine ⟨rfl, ⟨po3, pn3, pc3, HR2.out, ?_⟩, chg_row_new hc9 _ (by omega)⟩
  rw [((Chg.refl (w.heap.size + 1) w9).row _).block f (by have := HFL.out; have := hc9.size; omega) (by have := HNE.out; omega), HB9.out.block _ (by have := HLW.out; have := HB8.out.size; omega)]
  exact HF8.out
end Go.Proofs.YtaebpnednhkfhaaDoor
