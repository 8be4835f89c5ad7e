/-
  What marlstonelaw11's shown answers: a contract over this translation.
-/
import Derived.Test.YtcgjhopfdpaocaaDoorTbI
namespace Go.Proofs.YtcgjhopfdpaocaaDoor
open Go.RowKit Go.Sort Go.Shelf
set_option linter.unusedSectionVars false
variable [Inhabited E] [DecidableEq E]
theorem file_shown : fileB [eA1] = [77, 65, 82, 76, 0, 1, 97, 0, 1, 1, 118, 0, 0, 0, 0, 0, 0, 0, 1, 1, 97, 15, 0, 0, 0, 1, 0, 0, 0, 19] := by kernel_rfl
theorem fit_one : fitB [eA1] = true := by decide
theorem ents_one (w : World) : Ents (w.alloc (Obj.cells (flatE [eA1]).toArray 51)) w.heap.size 0 [eA1] := fun j u hu => by
  have hb : (w.alloc (Obj.cells (flatE [eA1]).toArray 51)).heap[w.heap.size]? = some (Obj.cells (flatE [eA1]).toArray 51) := by rw [heap_alloc_get, if_pos rfl]
  rw [Nat.zero_add, cell_of_row _ _ _ _ _ _ hb]
  simpa using hu
theorem tab_cells {w : World} {g : Nat} {lv n : Int} {d : List UInt8} {k1 k2 : ByteArray} {t : TypeId} {fr : Nat × Nat} (hd : d.length = 32) (h : w.heap[g]? = some (.cells (tabC lv n d k1 k2) t fr)) :
    w.cell? ⟨g, 0, none⟩ = some (.int .i64 lv) ∧ w.cell? ⟨g, 1, none⟩ = some (.int .i64 n) ∧ w.cell? ⟨g, 34, none⟩ = some (.string k1) ∧ w.cell? ⟨g, 35, none⟩ = some (.string k2) := by
  have hl : (cellsOf d).length = 32 := by rw [cellsOf_length, hd]
  refine ⟨?_, ?_, ?_, ?_⟩
  · rw [cell_of_row _ _ _ _ _ _ h]; rfl
  · rw [cell_of_row _ _ _ _ _ _ h]; rfl
  · rw [cell_of_row _ _ _ _ _ _ h]
    simp only [tabC, List.getElem?_toArray]
    rw [List.getElem?_cons_succ, List.getElem?_cons_succ, List.getElem?_append_right (by omega), hl]; rfl
  · rw [cell_of_row _ _ _ _ _ _ h]
    simp only [tabC, List.getElem?_toArray]
    rw [List.getElem?_cons_succ, List.getElem?_cons_succ, List.getElem?_append_right (by omega), hl]; rfl
set_option maxRecDepth 100000 in
set_option maxHeartbeats 4000000 in
theorem shownT_any (w : World) (hK : Sm.WW w 1 Sm.ks) (hz0 : 1 < w.heap.size) : Calls Tryd.prog 11 #[] w fun e w' => e = .returned (.bool true) ∧ Below w.heap.size w w' := by
  obtain ⟨W0, HW0⟩ : ∃ W0, Hid (w.alloc (Obj.cells (flatE [eA1]).toArray 51) = W0) := ⟨_, rfl⟩
  have hB0 : Below w.heap.size w W0 := by rw [← HW0.out]; exact bel_alloc _ _
  have hE0 : EntsV W0 (some ⟨w.heap.size, 0, none⟩) 1 [eA1] := ⟨rfl, fun _ => ⟨_, _, rfl, by rw [← HW0.out]; exact ents_one w⟩⟩
  have hs0 : w.heap.size < W0.heap.size := by rw [← HW0.out]; simp
  have CB := tableBytes_some w.heap.size 0 1 1 [eA1] W0 hE0 (Nat.le_refl _) fit_one hs0
  rw [file_shown] at CB
  have HCB : Hid _ := CB
  obtain ⟨d, HD⟩ : ∃ d, Hid (Sm.rootD 256 ([eA1].map bytesB) = d) := ⟨_, rfl⟩
  have HDL : Hid (d.length = 32) := by show _ = _; rw [← HD.out]; exact Sm.rootD_length _ _
  have HCD : Hid (∀ W, Below W0.heap.size W0 W → Calls Tryd.prog 15 #[.agg #[.int .i64 256], .int .i64 2, .slice (some ⟨w.heap.size, 0, none⟩) 1 1] W fun e w' => e = .returned (.tuple #[.agg (tabC 2 1 d ⟨#[97]⟩ ⟨#[97]⟩), .int .i64 0]) ∧ Below W.heap.size W w') := fun W hW => by
    have := describe_some 256 2 w.heap.size 0 1 1 [eA1] W (hE0.below hW (Nat.le_refl _)) fit_one (by omega) (hK.below (hB0.trans (hW.mono (Nat.le_of_lt hs0))) hz0) (Nat.lt_of_lt_of_le hz0 (Nat.le_trans hB0.size hW.size)) (by omega) (Nat.lt_of_lt_of_le hs0 hW.size)
    rw [HD.out] at this; exact this
  have HCF : Hid (∀ W, Below W0.heap.size W0 W → Calls Tryd.prog 20 #[.slice (some ⟨w.heap.size, 0, none⟩) 1 1] W fun e w' => e = .returned (.bool true) ∧ Below W.heap.size W w') := fun W hW => by
    have := fitT_any (some ⟨w.heap.size, 0, none⟩) 1 1 [eA1] W (hE0.below hW (Nat.le_refl _)) (right_small (fit_all fit_one)) (by omega)
    rw [fit_one] at this; exact this
  have HCN : Hid (∀ W, Calls Tryd.prog 20 #[.slice none 0 0] W fun e w' => e = .returned (.bool false) ∧ Below W.heap.size W w') := fun W => fitT_any none 0 0 [] W ⟨rfl, fun h => absurd h (by omega)⟩ (fun _ he => by cases he) (by omega)
  obtain ⟨kk, HKK⟩ : ∃ k, Hid (tabC 2 1 d ⟨#[97]⟩ ⟨#[97]⟩ = k) := ⟨_, rfl⟩
  have HKS : Hid (kk.size = 36) := by show _ = _; rw [← HKK.out]; exact tabC_size _ _ HDL.out _ _
  have HKA : Hid (kk.all (·.oneCell') = true) := by show _ = _; rw [← HKK.out]; exact tabC_all _ _ _ _ _
  have HZ : Hid ((zeroT).size = 36) := tabC_size 0 0 (by simp) _ _
  rw [HKK.out] at HCD
  have HB0 : Hid (Below w.heap.size w W0) := hB0
  clear CB hE0 hB0 hs0 hK hz0 HD
  go_enter Tryd.func11, Tryd.ntmps11
  go_wp2_with fail
  have hW0' : w.alloc (Obj.cells #[Value.string { data := #[97] }, Value.string { data := #[118] }, Value.bool false, Value.int IntKind.i64 1] 51) = W0 := HW0.out
  rw [hW0']
  clear hW0' HW0
  refine Calls.mono HCB.out ?_
  rintro e w1 ⟨v1, rfl, hown1, hb1⟩
  obtain ⟨g1, c1, rfl, -, -, hlc1, -⟩ := own_shape hown1 (by decide)
  have HBY : Hid (Bytes w1 (some ⟨g1, 0, none⟩) 30 [77, 65, 82, 76, 0, 1, 97, 0, 1, 1, 118, 0, 0, 0, 0, 0, 0, 0, 1, 1, 97, 15, 0, 0, 0, 1, 0, 0, 0, 19]) := own_row_bytes hown1
  have HB1 : Hid (Below W0.heap.size W0 w1) := hb1
  have hlc : 30 ≤ c1 := hlc1
  clear hown1 hb1 HCB hlc1
  go_wp2_with fail
  refine (HCD.out _ HB1.out).mono ?_
  rintro e w2 ⟨rfl, hb2⟩
  have HB2 : Hid (Below W0.heap.size W0 w2) := HB1.out.trans (hb2.mono HB1.out.size)
  have HBY2 : Hid (Bytes w2 (some ⟨g1, 0, none⟩) 30 [77, 65, 82, 76, 0, 1, 97, 0, 1, 1, 118, 0, 0, 0, 0, 0, 0, 0, 1, 1, 97, 15, 0, 0, 0, 1, 0, 0, 0, 19]) := bytes_kept HBY.out hb2 (Nat.le_refl _)
  have HRES : Hid ((w2.alloc (.cells zeroT 34)).heap[w2.heap.size]? = some (.cells zeroT 34 (0, 0))) := World.alloc_heap_new _ _
  clear hb2 HBY HCD
  go_upto_region 4 with (refine wpList_store_row rfl 34 (.tmp 4) (.tmp 17) rfl w2.heap.size kk rfl rfl 34 zeroT HRES.out (by rw [size34, HKS.out]) (by rw [HKS.out, HZ.out]) HKA.out ?_)
  generalize hW3 : World.setRow _ _ _ = W3
  have hR3 : W3.heap[w2.heap.size]? = some (.cells kk 34 (0, 0)) := by rw [← hW3]; exact setRow_heap _ _ _ _ _ _ HRES.out
  have hb3 : Below w2.heap.size w2 W3 := by rw [← hW3]; exact below_setRow (bel_alloc w2 _) (Nat.le_refl _) _
  rw [← HKK.out] at hR3
  obtain ⟨t0, t1, t2, t3⟩ := tab_cells HDL.out hR3
  have hby3 := bytes_kept HBY2.out hb3 (Nat.le_refl _)
  have hcv1 : (convert 25 9 (.slice (some ⟨g1, 0, none⟩) 4 c1)).run Tryd.prog W3 = .ok (.string ⟨#[77, 65, 82, 76]⟩) W3 := str_bytes c1 (bytes_take hby3 4 (by omega))
  have hcv2 : (convert 25 9 (.slice (some ⟨g1, 19, none⟩) 11 (c1 - 19))).run Tryd.prog W3 = .ok (.string ⟨#[1, 97, 15, 0, 0, 0, 1, 0, 0, 0, 19]⟩) W3 := by
    have := str_bytes (c1 - 19) (bytes_drop hby3 19)
    simpa using this
  have hne : ¬ c1 = 19 := by omega
  have hle4 : (4 : Int) ≤ (c1 : Int) := by omega
  have HB3 : Hid (Below W0.heap.size W0 W3) := HB2.out.trans (hb3.mono HB2.out.size)
  clear hW3 hR3 hb3 hby3 HRES HBY2 HKK HKS HKA HZ HB2 HB1
  go_wp2_with fail
  refine (HCF.out _ HB3.out).mono ?_
  rintro e w4 ⟨rfl, hb4⟩
  have HB4 : Hid (Below W0.heap.size W0 w4) := HB3.out.trans (hb4.mono HB3.out.size)
  clear hb4 t0 t1 t2 t3 hcv1 hcv2
  go_wp2_with fail
  refine (HCN.out _).mono ?_
  rintro e w5 ⟨rfl, hb5⟩
  have HB5 : Hid (Below w.heap.size w w5) := HB0.out.trans ((HB4.out.trans (hb5.mono HB4.out.size)).mono HB0.out.size)
  clear hb5
  go_wp2
  go_ret
  exact ⟨rfl, HB5.out⟩
end Go.Proofs.YtcgjhopfdpaocaaDoor
