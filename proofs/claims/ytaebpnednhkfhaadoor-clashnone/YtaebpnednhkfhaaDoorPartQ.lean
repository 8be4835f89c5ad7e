/-
  What clash's Of and OfTexts answer: contracts over this translation. What marlstonelaw06.shown asks: closed facts. What marlstonelaw06.shown answers: a contract over this translation.
-/
import Derived.Test.YtaebpnednhkfhaaDoorPartP
import Derived.Lib.SlBytesConst
namespace Go.Proofs.YtaebpnednhkfhaaDoor
open Go.RowKit
set_option maxHeartbeats 4000000 in
set_option maxRecDepth 100000 in
theorem of_walk (z : Int) (ro : Option Addr) (rn rc : Nat) (x : Int) (lo : Option Addr) (ln lc : Nat) (po : Option Addr) (L pc : Nat) (rt : List UInt8) (b : Bool) (es : List (List UInt8)) (o : Option (List UInt8 × List UInt8)) (w : World)
    (hRO : ∀ W, Below w.heap.size w W → Calls Tryd.prog 23 #[.agg #[.int .i64 z], .slice ro rn rc] W fun e w' => e = .returned (dv rt) ∧ Below W.heap.size W w')
    (hCK : ∀ W, Below w.heap.size w W → Calls Tryd.prog 40 #[.agg #[.int .i64 z], dv rt, .int .i64 (rn : Int), .int .i64 x, .slice lo ln lc, .slice po L pc] W fun e w' => e = .returned (.bool b) ∧ Below W.heap.size W w')
    (hno : b = false → o = none)
    (hAC : b = true → ∀ W, Below w.heap.size w W → Calls Tryd.prog 71 #[.int .i64 (rn : Int), .int .i64 x, .slice po L pc] W fun e w' => ∃ v, e = .returned v ∧ DgO w' W.heap.size v es ∧ Below W.heap.size W w')
    (hOR : b = true → ∀ W g v base, Below w.heap.size w W → W.heap[g]? = some (.cells #[.slice lo ln lc] 36 (0, 0)) → DgO W base v es → Calls Tryd.prog 52 #[.agg #[.int .i64 z], .slice ro rn rc, .int .i64 x, .slice (some ⟨g, 0, none⟩) 1 1, v] W fun e w' => AnsR o e w' ∧ Below W.heap.size W w') :
    Calls Tryd.prog 48 #[.agg #[.int .i64 z], .slice ro rn rc, .int .i64 x, .slice lo ln lc, .slice po L pc] w fun e w' => AnsR o e w' ∧ Below w.heap.size w w' := by
  have HRO : Hid (∀ W, Below w.heap.size w W → Calls Tryd.prog 23 #[.agg #[.int .i64 z], .slice ro rn rc] W fun e w' => e = .returned (.agg (cellsOf rt).toArray) ∧ Below W.heap.size W w') := hRO
  have HCK : Hid (∀ W, Below w.heap.size w W → Calls Tryd.prog 40 #[.agg #[.int .i64 z], .agg (cellsOf rt).toArray, .int .i64 (rn : Int), .int .i64 x, .slice lo ln lc, .slice po L pc] W fun e w' => e = .returned (.bool b) ∧ Below W.heap.size W w') := hCK
  have HNO : Hid _ := hno
  have HAC : Hid _ := hAC
  have HOR : Hid _ := hOR
  obtain ⟨R, HR⟩ : ∃ R : Ending → World → Prop, Hid (R = fun e w' => AnsR o e w' ∧ Below w.heap.size w w') := ⟨_, rfl⟩
  rw [← HR.out]
  clear hRO hCK hno hAC hOR
  go_enter Tryd.func48, Tryd.ntmps48
  go_upto_region 1 with fail
  have HF := heap_alloc_new w (Obj.cells #[Value.int IntKind.i64 z] 30)
  have HBA := bel_alloc w (Obj.cells #[Value.int IntKind.i64 z] 30)
  obtain ⟨W0, HW0⟩ : ∃ W, Hid (w.alloc (Obj.cells #[Value.int IntKind.i64 z] 30) = W) := ⟨_, rfl⟩
  rw [HW0.out] at HF HBA ⊢
  have HBA : Hid (Below w.heap.size w W0) := HBA
  have HS : Hid (∀ W, Below W0.heap.size W0 W → W.cell? ⟨w.heap.size, 0, none⟩ = some (.int .i64 z)) := fun W hW => bel_cell2 hW (Nat.le_refl _) (by rw [cell_of_row W0 _ 0 _ _ _ HF]; rfl)
  have HW : Hid (∀ W, Below W0.heap.size W0 W → Below w.heap.size w W) := fun W hW => HBA.out.trans (hW.mono HBA.out.size)
  clear HF HW0
  refine wp_region_held_drew (S := fun W => W.cell? ⟨w.heap.size, 0, none⟩ = some (.int .i64 z)) (by kernel_rfl) (HS.out _ (Below.drew (Below.refl _ _))) (fun hS => ?_)
  refine wpAnyH_take (i := 0) (v := ?_) rfl (by kernel_rfl) (by kernel_rfl) (by kernel_rfl) (fun _ _ _ h => h) (Or.inl ⟨by rfl, ?_⟩) (by assumption) ?_
  rotate_left
  · (intro w hSw; (try dsimp only at hSw); go_simp; try with_reducible rfl)
  simp only [Act.put, List.getElem_toArray, List.getElem_cons_zero, List.setIfInBounds_toArray, List.set_cons_zero, List.set_cons_succ]
  refine wpAnyH_take (i := 1) (v := ?_) rfl (by kernel_rfl) (by kernel_rfl) (by kernel_rfl) (fun _ _ _ h => h) (Or.inl ⟨by rfl, ?_⟩) (by assumption) ?_
  rotate_left
  · (intro w hSw; (try dsimp only at hSw); go_simp; try with_reducible rfl)
  simp only [Act.put, List.getElem_toArray, List.getElem_cons_zero, List.getElem_cons_succ, List.setIfInBounds_toArray, List.set_cons_zero, List.set_cons_succ]
  refine wpAnyH_take (i := 2) (v := ?_) rfl (by kernel_rfl) (by kernel_rfl) (by kernel_rfl) (fun _ _ _ h => h) (Or.inl ⟨by rfl, ?_⟩) (by assumption) ?_
  rotate_left
  · (intro w hSw; (try dsimp only at hSw); go_simp; try with_reducible rfl)
  simp only [Act.put, List.getElem_toArray, List.getElem_cons_zero, List.getElem_cons_succ, List.setIfInBounds_toArray, List.set_cons_zero, List.set_cons_succ]
  refine wpAnyH_take (i := 4) (v := ?_) rfl (by kernel_rfl) (by kernel_rfl) (by kernel_rfl) (fun _ _ _ h => h) (Or.inl ⟨by rfl, ?_⟩) (by assumption) ?_
  rotate_left
  · (intro w hSw; (try dsimp only at hSw); go_simp; try with_reducible rfl)
  simp only [Act.put, List.getElem_toArray, List.getElem_cons_zero, List.getElem_cons_succ, List.setIfInBounds_toArray, List.set_cons_zero, List.set_cons_succ]
  refine wpAnyH_take (i := 5) (v := ?_) rfl (by kernel_rfl) (by kernel_rfl) (by kernel_rfl) (fun _ _ _ h => h) (Or.inl ⟨by rfl, ?_⟩) (by assumption) ?_
  rotate_left
  · (intro w hSw; (try dsimp only at hSw); go_simp; try with_reducible rfl)
  simp only [Act.put, List.getElem_toArray, List.getElem_cons_zero, List.getElem_cons_succ, List.setIfInBounds_toArray, List.set_cons_zero, List.set_cons_succ]
  refine wpAnyH_take (i := 6) (v := ?_) rfl (by kernel_rfl) (by kernel_rfl) (by kernel_rfl) (fun _ _ _ h => h) (Or.inl ⟨by rfl, ?_⟩) (by assumption) ?_
  rotate_left
  · (intro w hSw; (try dsimp only at hSw); go_simp; try with_reducible rfl)
  simp only [Act.put, List.getElem_toArray, List.getElem_cons_zero, List.getElem_cons_succ, List.setIfInBounds_toArray, List.set_cons_zero, List.set_cons_succ]
  refine wpAnyH_take (i := 7) (v := ?_) rfl (by kernel_rfl) (by kernel_rfl) (by kernel_rfl) (fun _ _ _ h => h) (Or.inl ⟨by rfl, ?_⟩) (by assumption) ?_
  rotate_left
  · (intro w hSw; (try dsimp only at hSw); go_simp; try with_reducible rfl)
  simp only [Act.put, List.getElem_toArray, List.getElem_cons_zero, List.getElem_cons_succ, List.setIfInBounds_toArray, List.set_cons_zero, List.set_cons_succ]
  refine wpAnyH_take (i := 8) (v := ?_) rfl (by kernel_rfl) (by kernel_rfl) (by kernel_rfl) (fun _ _ _ h => h) (Or.inl ⟨by rfl, ?_⟩) (by assumption) ?_
  rotate_left
  · (intro w hSw; (try dsimp only at hSw); go_simp; try with_reducible rfl)
  simp only [Act.put, List.getElem_toArray, List.getElem_cons_zero, List.getElem_cons_succ, List.setIfInBounds_toArray, List.set_cons_zero, List.set_cons_succ]
  refine wpAnyH_ready (rs := [3]) (by kernel_rfl) (by simp) ?_
  refine AllReadyH.cons rfl (fun K hK => ?_) AllReadyH.nil
  go_simp
  refine (HRO.out _ (HW.out _ (Below.drew (Below.refl _ _)))).mono ?_
  rintro e w1 ⟨rfl, hb1⟩
  have HB1 : Hid (Below W0.heap.size W0 w1) := (Below.drew (Below.refl _ _)).trans hb1
  go_wp2_with fail
  refine hK.out _ _ (HS.out _ HB1.out) (fun hHeld2 => ?_)
  clear hK K hb1
  refine wpAnyH_ready (rs := [9]) (by kernel_rfl) (by simp) ?_
  refine AllReadyH.cons rfl (fun K hK => ?_) AllReadyH.nil
  go_simp
  refine (HCK.out _ (HW.out _ HB1.out)).mono ?_
  rintro e w2 ⟨rfl, hb2⟩
  have HB2 : Hid (Below W0.heap.size W0 w2) := HB1.out.trans (hb2.mono HB1.out.size)
  go_wp2_with fail
  refine hK.out _ _ (HS.out _ HB2.out) (fun hHeld2 => ?_)
  clear hK K hb2
  refine wpAnyH_take (i := 10) (v := ?_) rfl (by kernel_rfl) (by kernel_rfl) (by kernel_rfl) (fun _ _ _ h => h) (Or.inl ⟨by rfl, ?_⟩) (by assumption) ?_
  rotate_left
  · (intro w hSw; (try dsimp only at hSw); go_simp; try with_reducible rfl)
  simp only [Act.put, List.getElem_toArray, List.getElem_cons_zero, List.getElem_cons_succ, List.setIfInBounds_toArray, List.set_cons_zero, List.set_cons_succ]
  refine wpAnyH_done (by kernel_rfl) ?_ _
  clear hS hHeld2
  cases b with
  | false =>
    go_wp2_with fail
    go_ret3
    rw [HR.out, HNO.out (by first | rfl | trivial)]
    exact ⟨ansr_none _, HW.out _ HB2.out⟩
  | true =>
    have HA : Hid _ := HAC.out rfl
    have HO : Hid _ := HOR.out rfl
    go_upto_region 3 with fail
    refine wp_region_held_drew (S := fun W => W.cell? ⟨w.heap.size, 0, none⟩ = some (.int .i64 z)) (by kernel_rfl) (HS.out _ (Below.drew HB2.out)) (fun hS => ?_)
    refine wpAnyH_take (i := 0) (v := ?_) rfl (by kernel_rfl) (by kernel_rfl) (by kernel_rfl) (fun _ _ _ h => h) (Or.inl ⟨by rfl, ?_⟩) (by assumption) ?_
    rotate_left
    · (intro w hSw; (try dsimp only at hSw); go_simp; try with_reducible rfl)
    simp only [Act.put, List.getElem_toArray, List.getElem_cons_zero, List.setIfInBounds_toArray, List.set_cons_zero, List.set_cons_succ]
    refine wpAnyH_take (i := 1) (v := ?_) rfl (by kernel_rfl) (by kernel_rfl) (by kernel_rfl) (fun _ _ _ h => h) (Or.inl ⟨by rfl, ?_⟩) (by assumption) ?_
    rotate_left
    · (intro w hSw; (try dsimp only at hSw); go_simp; try with_reducible rfl)
    simp only [Act.put, List.getElem_toArray, List.getElem_cons_zero, List.getElem_cons_succ, List.setIfInBounds_toArray, List.set_cons_zero, List.set_cons_succ]
    refine wpAnyH_take (i := 2) (v := ?_) rfl (by kernel_rfl) (by kernel_rfl) (by kernel_rfl) (fun _ _ _ h => h) (Or.inl ⟨by rfl, ?_⟩) (by assumption) ?_
    rotate_left
    · (intro w hSw; (try dsimp only at hSw); go_simp; try with_reducible rfl)
    simp only [Act.put, List.getElem_toArray, List.getElem_cons_zero, List.getElem_cons_succ, List.setIfInBounds_toArray, List.set_cons_zero, List.set_cons_succ]
    refine wpAnyH_take (i := 3) (v := ?_) rfl (by kernel_rfl) (by kernel_rfl) (by kernel_rfl) (fun _ _ _ h => h) (Or.inl ⟨by rfl, ?_⟩) (by assumption) ?_
    rotate_left
    · (intro w hSw; (try dsimp only at hSw); go_simp; try with_reducible rfl)
    simp only [Act.put, List.getElem_toArray, List.getElem_cons_zero, List.getElem_cons_succ, List.setIfInBounds_toArray, List.set_cons_zero, List.set_cons_succ]
    refine wpAnyH_take (i := 5) (v := ?_) rfl (by kernel_rfl) (by kernel_rfl) (by kernel_rfl) (fun _ _ _ h => h) (Or.inl ⟨by rfl, ?_⟩) (by assumption) ?_
    rotate_left
    · (intro w hSw; (try dsimp only at hSw); go_simp; try with_reducible rfl)
    simp only [Act.put, List.getElem_toArray, List.getElem_cons_zero, List.getElem_cons_succ, List.setIfInBounds_toArray, List.set_cons_zero, List.set_cons_succ]
    refine wpAnyH_take (i := 6) (v := ?_) rfl (by kernel_rfl) (by kernel_rfl) (by kernel_rfl) (fun _ _ _ h => h) (Or.inl ⟨by rfl, ?_⟩) (by assumption) ?_
    rotate_left
    · (intro w hSw; (try dsimp only at hSw); go_simp; try with_reducible rfl)
    simp only [Act.put, List.getElem_toArray, List.getElem_cons_zero, List.getElem_cons_succ, List.setIfInBounds_toArray, List.set_cons_zero, List.set_cons_succ]
    refine wpAnyH_take (i := 7) (v := ?_) rfl (by kernel_rfl) (by kernel_rfl) (by kernel_rfl) (fun _ _ _ h => h) (Or.inl ⟨by rfl, ?_⟩) (by assumption) ?_
    rotate_left
    · (intro w hSw; (try dsimp only at hSw); go_simp; try with_reducible rfl)
    simp only [Act.put, List.getElem_toArray, List.getElem_cons_zero, List.getElem_cons_succ, List.setIfInBounds_toArray, List.set_cons_zero, List.set_cons_succ]
    refine wpAnyH_take (i := 8) (v := ?_) rfl (by kernel_rfl) (by kernel_rfl) (by kernel_rfl) (fun _ _ _ h => h) (Or.inl ⟨by rfl, ?_⟩) (by assumption) ?_
    rotate_left
    · (intro w hSw; (try dsimp only at hSw); go_simp; try with_reducible rfl)
    simp only [Act.put, List.getElem_toArray, List.getElem_cons_zero, List.getElem_cons_succ, List.setIfInBounds_toArray, List.set_cons_zero, List.set_cons_succ]
    refine wpAnyH_ready (rs := [4, 9]) (by kernel_rfl) (by simp) ?_
    refine AllReadyH.cons rfl (fun K hK => ?_) (AllReadyH.cons rfl (fun K hK => ?_) AllReadyH.nil)
    · go_simp
      have hg3 := heap_alloc_new w2.drew (Obj.cells #[Value.slice lo ln lc] 36)
      have HB3 : Hid (Below W0.heap.size W0 (w2.drew.alloc (Obj.cells #[Value.slice lo ln lc] 36))) := (Below.drew HB2.out).alloc (Below.drew HB2.out).size _
      refine hK.out _ _ (HS.out _ HB3.out) (fun hHeld2 => ?_)
      clear hK K
      have HG3 : Hid _ := hg3
      clear hg3
      refine wpAnyH_ready (rs := [9]) (by kernel_rfl) (by simp) ?_
      refine AllReadyH.cons rfl (fun K hK => ?_) AllReadyH.nil
      go_simp
      refine (HA.out _ (HW.out _ HB3.out)).mono ?_
      rintro e w3 ⟨v, rfl, hd3, hb3⟩
      have HB4 : Hid (Below W0.heap.size W0 w3) := HB3.out.trans (hb3.mono HB3.out.size)
      have HG4 : Hid (w3.heap[w2.heap.size]? = some (.cells #[.slice lo ln lc] 36 (0, 0))) := (hb3.block _ (Array.getElem?_eq_some_iff.1 HG3.out).1).trans HG3.out
      have HD4 : Hid _ := hd3
      go_wp2_with fail
      refine hK.out _ _ (HS.out _ HB4.out) (fun hHeld3 => ?_)
      clear hK K hd3 hb3 hHeld2
      refine wpAnyH_ready (rs := [10]) (by kernel_rfl) (by simp) ?_
      refine AllReadyH.cons rfl (fun K hK => ?_) AllReadyH.nil
      go_simp
      refine (HO.out w3 w2.heap.size v _ (HW.out _ HB4.out) HG4.out HD4.out).mono ?_
      rintro e w5 ⟨ha, hb5⟩
      have HB5 : Hid (Below W0.heap.size W0 w5) := HB4.out.trans (hb5.mono HB4.out.size)
      have HAN : Hid _ := ha
      obtain ⟨ao, n, c, bo, m, d, rfl, -, -⟩ := ha
      go_wp2_with fail
      refine hK.out _ _ (HS.out _ HB5.out) (fun hHeld2 => ?_)
      clear hK K hb5
      refine wpAnyH_take (i := 11) (v := ?_) rfl (by kernel_rfl) (by kernel_rfl) (by kernel_rfl) (fun _ _ _ h => h) (Or.inl ⟨by rfl, ?_⟩) (by assumption) ?_
      rotate_left
      · (intro w hSw; (try dsimp only at hSw); go_simp; try with_reducible rfl)
      simp only [Act.put, List.getElem_toArray, List.getElem_cons_zero, List.getElem_cons_succ, List.setIfInBounds_toArray, List.set_cons_zero, List.set_cons_succ]
      refine wpAnyH_take (i := 12) (v := ?_) rfl (by kernel_rfl) (by kernel_rfl) (by kernel_rfl) (fun _ _ _ h => h) (Or.inl ⟨by rfl, ?_⟩) (by assumption) ?_
      rotate_left
      · (intro w hSw; (try dsimp only at hSw); go_simp; try with_reducible rfl)
      simp only [Act.put, List.getElem_toArray, List.getElem_cons_zero, List.getElem_cons_succ, List.setIfInBounds_toArray, List.set_cons_zero, List.set_cons_succ]
      refine wpAnyH_take (i := 13) (v := ?_) rfl (by kernel_rfl) (by kernel_rfl) (by kernel_rfl) (fun _ _ _ h => h) (Or.inl ⟨by rfl, ?_⟩) (by assumption) ?_
      rotate_left
      · (intro w hSw; (try dsimp only at hSw); go_simp; try with_reducible rfl)
      simp only [Act.put, List.getElem_toArray, List.getElem_cons_zero, List.getElem_cons_succ, List.setIfInBounds_toArray, List.set_cons_zero, List.set_cons_succ]
      refine wpAnyH_take (i := 14) (v := ?_) rfl (by kernel_rfl) (by kernel_rfl) (by kernel_rfl) (fun _ _ _ h => h) (Or.inl ⟨by rfl, ?_⟩) (by assumption) ?_
      rotate_left
      · (intro w hSw; (try dsimp only at hSw); go_simp; try with_reducible rfl)
      simp only [Act.put, List.getElem_toArray, List.getElem_cons_zero, List.getElem_cons_succ, List.setIfInBounds_toArray, List.set_cons_zero, List.set_cons_succ]
      refine wpAnyH_take (i := 15) (v := ?_) rfl (by kernel_rfl) (by kernel_rfl) (by kernel_rfl) (fun _ _ _ h => h) (Or.inl ⟨by rfl, ?_⟩) (by assumption) ?_
      rotate_left
      · (intro w hSw; (try dsimp only at hSw); go_simp; try with_reducible rfl)
      simp only [Act.put, List.getElem_toArray, List.getElem_cons_zero, List.getElem_cons_succ, List.setIfInBounds_toArray, List.set_cons_zero, List.set_cons_succ]
      refine wpAnyH_take (i := 16) (v := ?_) rfl (by kernel_rfl) (by kernel_rfl) (by kernel_rfl) (fun _ _ _ h => h) (Or.inl ⟨by rfl, ?_⟩) (by assumption) ?_
      rotate_left
      · (intro w hSw; (try dsimp only at hSw); go_simp; try with_reducible rfl)
      simp only [Act.put, List.getElem_toArray, List.getElem_cons_zero, List.getElem_cons_succ, List.setIfInBounds_toArray, List.set_cons_zero, List.set_cons_succ]
      refine wpAnyH_done (by kernel_rfl) ?_ _
      clear hS hHeld2
      go_wp2_with fail
      go_ret3
      rw [HR.out]
      exact ⟨HAN.out, HW.out _ HB5.out⟩
    · go_simp
      refine (HA.out _ (HW.out _ (Below.drew HB2.out))).mono ?_
      rintro e w3 ⟨v, rfl, hd3, hb3⟩
      have HB3 : Hid (Below W0.heap.size W0 w3) := (Below.drew HB2.out).trans (hb3.mono (Below.drew HB2.out).size)
      have HD3 : Hid _ := hd3
      go_wp2_with fail
      refine hK.out _ _ (HS.out _ HB3.out) (fun hHeld2 => ?_)
      clear hK K hd3 hb3
      refine wpAnyH_ready (rs := [4]) (by kernel_rfl) (by simp) ?_
      refine AllReadyH.cons rfl (fun K hK => ?_) AllReadyH.nil
      go_simp
      have hg3 := heap_alloc_new w3 (Obj.cells #[Value.slice lo ln lc] 36)
      have HB4 : Hid (Below W0.heap.size W0 (w3.alloc (Obj.cells #[Value.slice lo ln lc] 36))) := HB3.out.alloc HB3.out.size _
      have HD4 : Hid _ := DgO.below HD3.out (bel_alloc w3 (Obj.cells #[Value.slice lo ln lc] 36)) (Nat.le_refl _)
      have HG4 : Hid _ := hg3
      refine hK.out _ _ (HS.out _ HB4.out) (fun hHeld3 => ?_)
      clear hK K hg3 hHeld2
      refine wpAnyH_ready (rs := [10]) (by kernel_rfl) (by simp) ?_
      refine AllReadyH.cons rfl (fun K hK => ?_) AllReadyH.nil
      go_simp
      refine (HO.out _ w3.heap.size v _ (HW.out _ HB4.out) HG4.out HD4.out).mono ?_
      rintro e w5 ⟨ha, hb5⟩
      have HB5 : Hid (Below W0.heap.size W0 w5) := HB4.out.trans (hb5.mono HB4.out.size)
      have HAN : Hid _ := ha
      obtain ⟨ao, n, c, bo, m, d, rfl, -, -⟩ := ha
      go_wp2_with fail
      refine hK.out _ _ (HS.out _ HB5.out) (fun hHeld2 => ?_)
      clear hK K hb5
      refine wpAnyH_take (i := 11) (v := ?_) rfl (by kernel_rfl) (by kernel_rfl) (by kernel_rfl) (fun _ _ _ h => h) (Or.inl ⟨by rfl, ?_⟩) (by assumption) ?_
      rotate_left
      · (intro w hSw; (try dsimp only at hSw); go_simp; try with_reducible rfl)
      simp only [Act.put, List.getElem_toArray, List.getElem_cons_zero, List.getElem_cons_succ, List.setIfInBounds_toArray, List.set_cons_zero, List.set_cons_succ]
      refine wpAnyH_take (i := 12) (v := ?_) rfl (by kernel_rfl) (by kernel_rfl) (by kernel_rfl) (fun _ _ _ h => h) (Or.inl ⟨by rfl, ?_⟩) (by assumption) ?_
      rotate_left
      · (intro w hSw; (try dsimp only at hSw); go_simp; try with_reducible rfl)
      simp only [Act.put, List.getElem_toArray, List.getElem_cons_zero, List.getElem_cons_succ, List.setIfInBounds_toArray, List.set_cons_zero, List.set_cons_succ]
      refine wpAnyH_take (i := 13) (v := ?_) rfl (by kernel_rfl) (by kernel_rfl) (by kernel_rfl) (fun _ _ _ h => h) (Or.inl ⟨by rfl, ?_⟩) (by assumption) ?_
      rotate_left
      · (intro w hSw; (try dsimp only at hSw); go_simp; try with_reducible rfl)
      simp only [Act.put, List.getElem_toArray, List.getElem_cons_zero, List.getElem_cons_succ, List.setIfInBounds_toArray, List.set_cons_zero, List.set_cons_succ]
      refine wpAnyH_take (i := 14) (v := ?_) rfl (by kernel_rfl) (by kernel_rfl) (by kernel_rfl) (fun _ _ _ h => h) (Or.inl ⟨by rfl, ?_⟩) (by assumption) ?_
      rotate_left
      · (intro w hSw; (try dsimp only at hSw); go_simp; try with_reducible rfl)
      simp only [Act.put, List.getElem_toArray, List.getElem_cons_zero, List.getElem_cons_succ, List.setIfInBounds_toArray, List.set_cons_zero, List.set_cons_succ]
      refine wpAnyH_take (i := 15) (v := ?_) rfl (by kernel_rfl) (by kernel_rfl) (by kernel_rfl) (fun _ _ _ h => h) (Or.inl ⟨by rfl, ?_⟩) (by assumption) ?_
      rotate_left
      · (intro w hSw; (try dsimp only at hSw); go_simp; try with_reducible rfl)
      simp only [Act.put, List.getElem_toArray, List.getElem_cons_zero, List.getElem_cons_succ, List.setIfInBounds_toArray, List.set_cons_zero, List.set_cons_succ]
      refine wpAnyH_take (i := 16) (v := ?_) rfl (by kernel_rfl) (by kernel_rfl) (by kernel_rfl) (fun _ _ _ h => h) (Or.inl ⟨by rfl, ?_⟩) (by assumption) ?_
      rotate_left
      · (intro w hSw; (try dsimp only at hSw); go_simp; try with_reducible rfl)
      simp only [Act.put, List.getElem_toArray, List.getElem_cons_zero, List.getElem_cons_succ, List.setIfInBounds_toArray, List.set_cons_zero, List.set_cons_succ]
      refine wpAnyH_done (by kernel_rfl) ?_ _
      clear hS hHeld2
      go_wp2_with fail
      go_ret3
      rw [HR.out]
      exact ⟨HAN.out, HW.out _ HB5.out⟩
theorem one_leaf {w : World} {g : Nat} {p : LV} (hg : w.heap[g]? = some (.cells #[.slice p.ao p.n p.c] 36 (0, 0))) (hb : Bytes w p.ao p.n p.bs) (hn : p.n ≤ 140737488355000) (h0 : p.ao = none → p.c = 0) : LeavesV w (some ⟨g, 0, none⟩) 1 1 [p] := by
  refine ⟨rfl, Nat.le_refl _, by omega, fun _ => ⟨g, 0, rfl, fun i q hq => ?_⟩⟩
  cases i with
  | zero =>
    cases hq
    exact ⟨by rw [cell_of_row _ _ _ _ _ _ hg]; rfl, hb, hn, h0⟩
  | succ i => simp at hq
theorem ofOne_any (z : Int) (ro : Option Addr) (rn rc : Nat) (real : List LV) (x : Int) (p : LV) (po : Option Addr) (L pc : Nat) (ds : List (List UInt8)) (w : World) (hReal : LeavesV w ro rn rc real) (hr : rn ≤ 1000) (hb : Bytes w p.ao p.n p.bs) (hn : p.n ≤ 140737488355000) (h0 : p.ao = none → p.c = 0) (hP : PathV w po ds) (hl : ds.length = L) (hLc : L ≤ pc) (hpc : pc ≤ 9223372036854775807) (hK : WW w 0 ks) (hz0 : 0 < w.heap.size) (hz : -9223372036854775808 ≤ z ∧ z ≤ 9223372036854775807) :
    Calls Tryd.prog 48 #[.agg #[.int .i64 z], .slice ro rn rc, .int .i64 x, .slice p.ao p.n p.c, .slice po L pc] w fun e w' => AnsR (ofO z real x p ds) e w' ∧ Below w.heap.size w w' := by
  have hrl := hReal.1
  refine of_walk z ro rn rc x p.ao p.n p.c po L pc (rootD z (bytesL real)) (ckB z (rootD z (bytesL real)) rn x p.bs ds) (acrD rn x.toNat ds) _ w (fun W hW => ?_) (fun W hW => ?_) (fun h => ?_) (fun h W hW => ?_) (fun h W g v base hW hg hd => ?_)
  · exact root_any z hz rn ro rc real W (hReal.below hW (Nat.le_refl _)) hr (hK.below hW hz0) (Nat.lt_of_lt_of_le hz0 hW.size)
  · exact check_any z _ rn x p.ao p.n p.c p.bs po L pc ds W (rootD_length _ _) (by omega) hl hLc hpc (hP.below hW (Nat.le_refl _)) (bytes_kept hb hW (Nat.le_refl _)) h0 hn (hK.below hW hz0) (Nat.lt_of_lt_of_le hz0 hW.size) hz
  · exact ofO_no z real x p ds (by rw [hrl]; exact h)
  · unfold ckB at h
    rw [Bool.and_eq_true, decide_eq_true_eq, Int.toNat_natCast] at h
    obtain ⟨⟨h1, h2, h3⟩, -⟩ := h
    obtain ⟨i, rfl⟩ : ∃ m : Nat, x = (m : Int) := ⟨x.toNat, by omega⟩
    rw [Int.toNat_natCast] at h3 ⊢
    unfold upL at h3
    rw [List.length_reverse] at h3
    exact across_any rn i po L pc ds W (by omega) (by omega) hl (by omega) (hP.below hW (Nat.le_refl _))
  · have e : ofO z real x p ds = ofR z real [p] x (acrD rn x.toNat ds) := by unfold ofO; rw [hrl, if_pos h]
    rw [e]
    obtain ⟨ao, c, rfl, hc1, -, hPV⟩ := hd.path
    exact ofRange_any z ro rn rc real x (some ⟨g, 0, none⟩) 1 1 [p] ao _ c (acrD rn x.toNat ds) W (hReal.below hW (Nat.le_refl _)) hr (one_leaf hg (bytes_kept hb hW (Nat.le_refl _)) hn h0) (by omega) hPV rfl hc1 (hK.below hW hz0) (Nat.lt_of_lt_of_le hz0 hW.size) hz
/-- Are two texts a clash? -/
def oft (z : Int) (xs ys : List UInt8) : Bool := decide (xs ≠ ys) && (keptZ z xs == keptZ z ys)
set_option maxHeartbeats 4000000 in
set_option maxRecDepth 100000 in
theorem ofTexts_same (z : Int) (va vb : Value) (w : World) (hE : ∀ W, Below w.heap.size w W → Calls Tryd.prog 74 #[va, vb] W fun e w' => e = .returned (.bool true) ∧ w' = W) :
    Calls Tryd.prog 50 #[.agg #[.int .i64 z], va, vb] w fun e w' => e = .returned (.bool false) ∧ Below w.heap.size w w' := by
  have HE : Hid _ := hE
  clear hE
  go_enter Tryd.func50, Tryd.ntmps50
  go_upto_region 1 with fail
  have HBA := bel_alloc w (Obj.cells #[Value.int IntKind.i64 z] 30)
  obtain ⟨W0, HW0⟩ : ∃ W, Hid (w.alloc (Obj.cells #[Value.int IntKind.i64 z] 30) = W) := ⟨_, rfl⟩
  rw [HW0.out] at HBA ⊢
  have HBA : Hid (Below w.heap.size w W0) := HBA
  clear HW0
  refine wp_region_held_drew (S := fun _ => True) (by kernel_rfl) trivial (fun hS => ?_)
  refine wpAnyH_take (i := 0) (v := ?_) rfl (by kernel_rfl) (by kernel_rfl) (by kernel_rfl) (fun _ _ _ h => h) (Or.inl ⟨by rfl, ?_⟩) (by assumption) ?_
  rotate_left
  · (intro w hSw; (try dsimp only at hSw); go_simp; try with_reducible rfl)
  simp only [Act.put, List.getElem_toArray, List.getElem_cons_zero, List.setIfInBounds_toArray, List.set_cons_zero, List.set_cons_succ]
  refine wpAnyH_take (i := 1) (v := ?_) rfl (by kernel_rfl) (by kernel_rfl) (by kernel_rfl) (fun _ _ _ h => h) (Or.inl ⟨by rfl, ?_⟩) (by assumption) ?_
  rotate_left
  · (intro w hSw; (try dsimp only at hSw); go_simp; try with_reducible rfl)
  simp only [Act.put, List.getElem_toArray, List.getElem_cons_zero, List.getElem_cons_succ, List.setIfInBounds_toArray, List.set_cons_zero, List.set_cons_succ]
  refine wpAnyH_ready (rs := [2]) (by kernel_rfl) (by simp) ?_
  refine AllReadyH.cons rfl (fun K hK => ?_) AllReadyH.nil
  go_simp
  refine (HE.out _ (Below.drew HBA.out)).mono ?_
  rintro e w1 ⟨rfl, rfl⟩
  go_wp2_with fail
  refine hK.out _ _ trivial (fun hHeld2 => ?_)
  clear hK K
  refine wpAnyH_take (i := 3) (v := ?_) rfl (by kernel_rfl) (by kernel_rfl) (by kernel_rfl) (fun _ _ _ h => h) (Or.inl ⟨by rfl, ?_⟩) (by assumption) ?_
  rotate_left
  · (intro w hSw; (try dsimp only at hSw); go_simp; try with_reducible rfl)
  simp only [Act.put, List.getElem_toArray, List.getElem_cons_zero, List.getElem_cons_succ, List.setIfInBounds_toArray, List.set_cons_zero, List.set_cons_succ]
  refine wpAnyH_take (i := 4) (v := ?_) rfl (by kernel_rfl) (by kernel_rfl) (by kernel_rfl) (fun _ _ _ h => h) (Or.inl ⟨by rfl, ?_⟩) (by assumption) ?_
  rotate_left
  · (intro w hSw; (try dsimp only at hSw); go_simp; try with_reducible rfl)
  simp only [Act.put, List.getElem_toArray, List.getElem_cons_zero, List.getElem_cons_succ, List.setIfInBounds_toArray, List.set_cons_zero, List.set_cons_succ]
  refine wpAnyH_take (i := 5) (v := undef) rfl (by kernel_rfl) (by kernel_rfl) (by kernel_rfl) (fun _ _ _ h => h) (Or.inr ⟨by rfl, rfl⟩) (by assumption) ?_
  simp only [Act.put, List.getElem_toArray, List.getElem_cons_zero, List.getElem_cons_succ, List.setIfInBounds_toArray, List.set_cons_zero, List.set_cons_succ]
  refine wpAnyH_take (i := 6) (v := undef) rfl (by kernel_rfl) (by kernel_rfl) (by kernel_rfl) (fun _ _ _ h => h) (Or.inr ⟨by rfl, rfl⟩) (by assumption) ?_
  simp only [Act.put, List.getElem_toArray, List.getElem_cons_zero, List.getElem_cons_succ, List.setIfInBounds_toArray, List.set_cons_zero, List.set_cons_succ]
  refine wpAnyH_take (i := 7) (v := undef) rfl (by kernel_rfl) (by kernel_rfl) (by kernel_rfl) (fun _ _ _ h => h) (Or.inr ⟨by rfl, rfl⟩) (by assumption) ?_
  simp only [Act.put, List.getElem_toArray, List.getElem_cons_zero, List.getElem_cons_succ, List.setIfInBounds_toArray, List.set_cons_zero, List.set_cons_succ]
  refine wpAnyH_take (i := 8) (v := undef) rfl (by kernel_rfl) (by kernel_rfl) (by kernel_rfl) (fun _ _ _ h => h) (Or.inr ⟨by rfl, rfl⟩) (by assumption) ?_
  simp only [Act.put, List.getElem_toArray, List.getElem_cons_zero, List.getElem_cons_succ, List.setIfInBounds_toArray, List.set_cons_zero, List.set_cons_succ]
  refine wpAnyH_take (i := 9) (v := undef) rfl (by kernel_rfl) (by kernel_rfl) (by kernel_rfl) (fun _ _ _ h => h) (Or.inr ⟨by rfl, rfl⟩) (by assumption) ?_
  simp only [Act.put, List.getElem_toArray, List.getElem_cons_zero, List.getElem_cons_succ, List.setIfInBounds_toArray, List.set_cons_zero, List.set_cons_succ]
  refine wpAnyH_take (i := 10) (v := undef) rfl (by kernel_rfl) (by kernel_rfl) (by kernel_rfl) (fun _ _ _ h => h) (Or.inr ⟨by rfl, rfl⟩) (by assumption) ?_
  simp only [Act.put, List.getElem_toArray, List.getElem_cons_zero, List.getElem_cons_succ, List.setIfInBounds_toArray, List.set_cons_zero, List.set_cons_succ]
  refine wpAnyH_take (i := 11) (v := undef) rfl (by kernel_rfl) (by kernel_rfl) (by kernel_rfl) (fun _ _ _ h => h) (Or.inr ⟨by rfl, rfl⟩) (by assumption) ?_
  simp only [Act.put, List.getElem_toArray, List.getElem_cons_zero, List.getElem_cons_succ, List.setIfInBounds_toArray, List.set_cons_zero, List.set_cons_succ]
  refine wpAnyH_take (i := 12) (v := undef) rfl (by kernel_rfl) (by kernel_rfl) (by kernel_rfl) (fun _ _ _ h => h) (Or.inr ⟨by rfl, rfl⟩) (by assumption) ?_
  simp only [Act.put, List.getElem_toArray, List.getElem_cons_zero, List.getElem_cons_succ, List.setIfInBounds_toArray, List.set_cons_zero, List.set_cons_succ]
  refine wpAnyH_take (i := 13) (v := undef) rfl (by kernel_rfl) (by kernel_rfl) (by kernel_rfl) (fun _ _ _ h => h) (Or.inr ⟨by rfl, rfl⟩) (by assumption) ?_
  simp only [Act.put, List.getElem_toArray, List.getElem_cons_zero, List.getElem_cons_succ, List.setIfInBounds_toArray, List.set_cons_zero, List.set_cons_succ]
  refine wpAnyH_take (i := 14) (v := ?_) rfl (by kernel_rfl) (by kernel_rfl) (by kernel_rfl) (fun _ _ _ h => h) (Or.inl ⟨by rfl, ?_⟩) (by assumption) ?_
  rotate_left
  · (intro w hSw; (try dsimp only at hSw); go_simp; try with_reducible rfl)
  simp only [Act.put, List.getElem_toArray, List.getElem_cons_zero, List.getElem_cons_succ, List.setIfInBounds_toArray, List.set_cons_zero, List.set_cons_succ]
  refine wpAnyH_take (i := 15) (v := ?_) rfl (by kernel_rfl) (by kernel_rfl) (by kernel_rfl) (fun _ _ _ h => h) (Or.inl ⟨by rfl, ?_⟩) (by assumption) ?_
  rotate_left
  · (intro w hSw; (try dsimp only at hSw); go_simp; try with_reducible rfl)
  simp only [Act.put, List.getElem_toArray, List.getElem_cons_zero, List.getElem_cons_succ, List.setIfInBounds_toArray, List.set_cons_zero, List.set_cons_succ]
  refine wpAnyH_done (by kernel_rfl) ?_ _
  clear hS hHeld2
  go_wp2_with fail
  go_ret
  exact ⟨rfl, Below.drew HBA.out⟩
set_option maxHeartbeats 4000000 in
set_option maxRecDepth 100000 in
theorem ofTexts_unlike (z : Int) (va vb : Value) (da db : List UInt8) (w : World) (h1 : da.length = 32) (h2 : db.length = 32) (hE : ∀ W, Below w.heap.size w W → Calls Tryd.prog 74 #[va, vb] W fun e w' => e = .returned (.bool false) ∧ w' = W)
    (hA : ∀ W, Below w.heap.size w W → Calls Tryd.prog 57 #[va, .int .i64 z] W fun e w' => e = .returned (.agg (cellsOf da).toArray) ∧ Below W.heap.size W w')
    (hB : ∀ W, Below w.heap.size w W → Calls Tryd.prog 57 #[vb, .int .i64 z] W fun e w' => e = .returned (.agg (cellsOf db).toArray) ∧ Below W.heap.size W w') :
    Calls Tryd.prog 50 #[.agg #[.int .i64 z], va, vb] w fun e w' => e = .returned (.bool (da == db)) ∧ Below w.heap.size w w' := by
  have HE : Hid _ := hE
  have HA : Hid _ := hA
  have HB : Hid _ := hB
  have heq := eq_dig da db h1 h2
  have heq2 := equalIn_dig da db h1 h2
  have hg := guard24
  obtain ⟨v, HV⟩ : ∃ v, Hid ((da == db) = v) := ⟨_, rfl⟩
  rw [HV.out] at heq heq2 ⊢
  clear hE hA hB h1 h2
  go_enter Tryd.func50, Tryd.ntmps50
  go_upto_region 1 with fail
  have HF := heap_alloc_new w (Obj.cells #[Value.int IntKind.i64 z] 30)
  have HBA := bel_alloc w (Obj.cells #[Value.int IntKind.i64 z] 30)
  obtain ⟨W0, HW0⟩ : ∃ W, Hid (w.alloc (Obj.cells #[Value.int IntKind.i64 z] 30) = W) := ⟨_, rfl⟩
  rw [HW0.out] at HF HBA ⊢
  have HBA : Hid (Below w.heap.size w W0) := HBA
  have HS : Hid (∀ W, Below W0.heap.size W0 W → W.cell? ⟨w.heap.size, 0, none⟩ = some (.int .i64 z)) := fun W hW => bel_cell2 hW (Nat.le_refl _) (by rw [cell_of_row W0 _ 0 _ _ _ HF]; rfl)
  have HW : Hid (∀ W, Below W0.heap.size W0 W → Below w.heap.size w W) := fun W hW => HBA.out.trans (hW.mono HBA.out.size)
  clear HF HW0
  refine wp_region_held_drew (S := fun W => W.cell? ⟨w.heap.size, 0, none⟩ = some (.int .i64 z)) (by kernel_rfl) (HS.out _ (Below.drew (Below.refl _ _))) (fun hS => ?_)
  refine wpAnyH_take (i := 0) (v := ?_) rfl (by kernel_rfl) (by kernel_rfl) (by kernel_rfl) (fun _ _ _ h => h) (Or.inl ⟨by rfl, ?_⟩) (by assumption) ?_
  rotate_left
  · (intro w hSw; (try dsimp only at hSw); go_simp; try with_reducible rfl)
  simp only [Act.put, List.getElem_toArray, List.getElem_cons_zero, List.setIfInBounds_toArray, List.set_cons_zero, List.set_cons_succ]
  refine wpAnyH_take (i := 1) (v := ?_) rfl (by kernel_rfl) (by kernel_rfl) (by kernel_rfl) (fun _ _ _ h => h) (Or.inl ⟨by rfl, ?_⟩) (by assumption) ?_
  rotate_left
  · (intro w hSw; (try dsimp only at hSw); go_simp; try with_reducible rfl)
  simp only [Act.put, List.getElem_toArray, List.getElem_cons_zero, List.getElem_cons_succ, List.setIfInBounds_toArray, List.set_cons_zero, List.set_cons_succ]
  refine wpAnyH_ready (rs := [2]) (by kernel_rfl) (by simp) ?_
  refine AllReadyH.cons rfl (fun K hK => ?_) AllReadyH.nil
  go_simp
  refine (HE.out _ (HW.out _ (Below.drew (Below.refl _ _)))).mono ?_
  rintro e w1 ⟨rfl, rfl⟩
  go_wp2_with fail
  refine hK.out _ _ (HS.out _ (Below.drew (Below.refl _ _))) (fun hHeld2 => ?_)
  clear hK K
  refine wpAnyH_take (i := 3) (v := ?_) rfl (by kernel_rfl) (by kernel_rfl) (by kernel_rfl) (fun _ _ _ h => h) (Or.inl ⟨by rfl, ?_⟩) (by assumption) ?_
  rotate_left
  · (intro w hSw; (try dsimp only at hSw); go_simp; try with_reducible rfl)
  simp only [Act.put, List.getElem_toArray, List.getElem_cons_zero, List.getElem_cons_succ, List.setIfInBounds_toArray, List.set_cons_zero, List.set_cons_succ]
  refine wpAnyH_take (i := 4) (v := ?_) rfl (by kernel_rfl) (by kernel_rfl) (by kernel_rfl) (fun _ _ _ h => h) (Or.inl ⟨by rfl, ?_⟩) (by assumption) ?_
  rotate_left
  · (intro w hSw; (try dsimp only at hSw); go_simp; try with_reducible rfl)
  simp only [Act.put, List.getElem_toArray, List.getElem_cons_zero, List.getElem_cons_succ, List.setIfInBounds_toArray, List.set_cons_zero, List.set_cons_succ]
  refine wpAnyH_take (i := 5) (v := ?_) rfl (by kernel_rfl) (by kernel_rfl) (by kernel_rfl) (fun _ _ _ h => h) (Or.inl ⟨by rfl, ?_⟩) (by assumption) ?_
  rotate_left
  · (intro w hSw; (try dsimp only at hSw); go_simp; try with_reducible rfl)
  simp only [Act.put, List.getElem_toArray, List.getElem_cons_zero, List.getElem_cons_succ, List.setIfInBounds_toArray, List.set_cons_zero, List.set_cons_succ]
  refine wpAnyH_take (i := 6) (v := ?_) rfl (by kernel_rfl) (by kernel_rfl) (by kernel_rfl) (fun _ _ _ h => h) (Or.inl ⟨by rfl, ?_⟩) (by assumption) ?_
  rotate_left
  · (intro w hSw; (try dsimp only at hSw); go_simp; try with_reducible rfl)
  simp only [Act.put, List.getElem_toArray, List.getElem_cons_zero, List.getElem_cons_succ, List.setIfInBounds_toArray, List.set_cons_zero, List.set_cons_succ]
  refine wpAnyH_take (i := 7) (v := ?_) rfl (by kernel_rfl) (by kernel_rfl) (by kernel_rfl) (fun _ _ _ h => h) (Or.inl ⟨by rfl, ?_⟩) (by assumption) ?_
  rotate_left
  · (intro w hSw; (try dsimp only at hSw); go_simp; try with_reducible rfl)
  simp only [Act.put, List.getElem_toArray, List.getElem_cons_zero, List.getElem_cons_succ, List.setIfInBounds_toArray, List.set_cons_zero, List.set_cons_succ]
  refine wpAnyH_take (i := 9) (v := ?_) rfl (by kernel_rfl) (by kernel_rfl) (by kernel_rfl) (fun _ _ _ h => h) (Or.inl ⟨by rfl, ?_⟩) (by assumption) ?_
  rotate_left
  · (intro w hSw; (try dsimp only at hSw); go_simp; try with_reducible rfl)
  simp only [Act.put, List.getElem_toArray, List.getElem_cons_zero, List.getElem_cons_succ, List.setIfInBounds_toArray, List.set_cons_zero, List.set_cons_succ]
  refine wpAnyH_take (i := 10) (v := ?_) rfl (by kernel_rfl) (by kernel_rfl) (by kernel_rfl) (fun _ _ _ h => h) (Or.inl ⟨by rfl, ?_⟩) (by assumption) ?_
  rotate_left
  · (intro w hSw; (try dsimp only at hSw); go_simp; try with_reducible rfl)
  simp only [Act.put, List.getElem_toArray, List.getElem_cons_zero, List.getElem_cons_succ, List.setIfInBounds_toArray, List.set_cons_zero, List.set_cons_succ]
  refine wpAnyH_take (i := 11) (v := ?_) rfl (by kernel_rfl) (by kernel_rfl) (by kernel_rfl) (fun _ _ _ h => h) (Or.inl ⟨by rfl, ?_⟩) (by assumption) ?_
  rotate_left
  · (intro w hSw; (try dsimp only at hSw); go_simp; try with_reducible rfl)
  simp only [Act.put, List.getElem_toArray, List.getElem_cons_zero, List.getElem_cons_succ, List.setIfInBounds_toArray, List.set_cons_zero, List.set_cons_succ]
  refine wpAnyH_ready (rs := [8]) (by kernel_rfl) (by simp) ?_
  refine AllReadyH.cons rfl (fun K hK => ?_) AllReadyH.nil
  go_simp
  refine (HA.out _ (HW.out _ (Below.drew (Below.refl _ _)))).mono ?_
  rintro e w2 ⟨rfl, hb2⟩
  have HB2 : Hid (Below W0.heap.size W0 w2) := (Below.drew (Below.refl _ _)).trans hb2
  go_wp2_with fail
  refine hK.out _ _ (HS.out _ HB2.out) (fun hHeld3 => ?_)
  clear hK K hb2 hHeld2
  refine wpAnyH_ready (rs := [12]) (by kernel_rfl) (by simp) ?_
  refine AllReadyH.cons rfl (fun K hK => ?_) AllReadyH.nil
  go_simp
  refine (HB.out _ (HW.out _ HB2.out)).mono ?_
  rintro e w3 ⟨rfl, hb3⟩
  have HB3 : Hid (Below W0.heap.size W0 w3) := HB2.out.trans (hb3.mono HB2.out.size)
  go_wp2_with fail
  refine hK.out _ _ (HS.out _ HB3.out) (fun hHeld4 => ?_)
  clear hK K hb3 hHeld3
  refine wpAnyH_take (i := 13) (v := ?_) rfl (by kernel_rfl) (by kernel_rfl) (by kernel_rfl) (fun _ _ _ h => h) (Or.inl ⟨by rfl, ?_⟩) (by assumption) ?_
  rotate_left
  · (intro w hSw; (try dsimp only at hSw); go_simp; try with_reducible rfl)
  simp only [Act.put, List.getElem_toArray, List.getElem_cons_zero, List.getElem_cons_succ, List.setIfInBounds_toArray, List.set_cons_zero, List.set_cons_succ]
  refine wpAnyH_take (i := 14) (v := ?_) rfl (by kernel_rfl) (by kernel_rfl) (by kernel_rfl) (fun _ _ _ h => h) (Or.inl ⟨by rfl, ?_⟩) (by assumption) ?_
  rotate_left
  · (intro w hSw; (try dsimp only at hSw); go_simp; try with_reducible rfl)
  simp only [Act.put, List.getElem_toArray, List.getElem_cons_zero, List.getElem_cons_succ, List.setIfInBounds_toArray, List.set_cons_zero, List.set_cons_succ]
  refine wpAnyH_take (i := 15) (v := ?_) rfl (by kernel_rfl) (by kernel_rfl) (by kernel_rfl) (fun _ _ _ h => h) (Or.inl ⟨by rfl, ?_⟩) (by assumption) ?_
  rotate_left
  · (intro w hSw; (try dsimp only at hSw); go_simp; try with_reducible rfl)
  simp only [Act.put, List.getElem_toArray, List.getElem_cons_zero, List.getElem_cons_succ, List.setIfInBounds_toArray, List.set_cons_zero, List.set_cons_succ]
  refine wpAnyH_done (by kernel_rfl) ?_ _
  clear hS hHeld4
  go_wp2_with fail
  go_ret
  exact ⟨rfl, HW.out _ HB3.out⟩
theorem ofTexts_any (z : Int) (ao : Option Addr) (n c : Nat) (xs : List UInt8) (bo : Option Addr) (m d : Nat) (ys : List UInt8) (w : World) (ha : TxV w ao n c xs) (hb : TxV w bo m d ys) (hK : WW w 0 ks) (hz0 : 0 < w.heap.size) (hz : -9223372036854775808 ≤ z ∧ z ≤ 9223372036854775807) :
    Calls Tryd.prog 50 #[.agg #[.int .i64 z], .slice ao n c, .slice bo m d] w fun e w' => e = .returned (.bool (oft z xs ys)) ∧ Below w.heap.size w w' := by
  by_cases he : xs = ys
  · have hf : oft z xs ys = false := by unfold oft; rw [decide_eq_false (fun h => h he), Bool.false_and]
    rw [hf]
    refine ofTexts_same z _ _ w (fun W hW => ?_)
    have h := bequal_any ao bo n c m d xs ys W (ha.below hW (Nat.le_refl _)).1 (hb.below hW (Nat.le_refl _)).1
    rw [decide_eq_true he] at h
    exact h
  · have hf : oft z xs ys = (keptZ z xs == keptZ z ys) := by unfold oft; rw [decide_eq_true he, Bool.true_and]
    rw [hf]
    refine ofTexts_unlike z _ _ (keptZ z xs) (keptZ z ys) w (keptZ_length _ _) (keptZ_length _ _) (fun W hW => ?_) (fun W hW => ?_) (fun W hW => ?_)
    · have h := bequal_any ao bo n c m d xs ys W (ha.below hW (Nat.le_refl _)).1 (hb.below hW (Nat.le_refl _)).1
      rw [decide_eq_false he] at h
      exact h
    · obtain ⟨a1, a2, a3, a4, a5⟩ := ha.below hW (Nat.le_refl _)
      exact kept_cap ao n c xs z W a1 a3 a4 (by omega) (hK.below hW hz0) (Nat.lt_of_lt_of_le hz0 hW.size) hz.1 hz.2
    · obtain ⟨a1, a2, a3, a4, a5⟩ := hb.below hW (Nat.le_refl _)
      exact kept_cap bo m d ys z W a1 a3 a4 (by omega) (hK.below hW hz0) (Nat.lt_of_lt_of_le hz0 hW.size) hz.1 hz.2
end Go.Proofs.YtaebpnednhkfhaaDoor
namespace Go.Proofs.YtaebpnednhkfhaaDoor
open Go.RowKit
def ls2 (s : Nat) (a b : UInt8) : List LV := [⟨some ⟨s, 0, none⟩, 1, 1, [a]⟩, ⟨some ⟨s + 1, 0, none⟩, 1, 1, [b]⟩]
theorem sh_x (s g : Nat) : ofO 0 (ls2 s 97 98) 0 ⟨some ⟨g, 0, none⟩, 1, 1, [120]⟩ [List.replicate 32 0] = some ([0, 120], [0, 97]) := by kernel_rfl
theorem sh_a (s g : Nat) : ofO 0 (ls2 s 97 98) 0 ⟨some ⟨g, 0, none⟩, 1, 1, [97]⟩ [List.replicate 32 0] = none := by kernel_rfl
theorem sh_l (s g : Nat) : ofR 0 (ls2 s 97 98) (ls2 g 97 99) 0 [] = some ([0, 99], [0, 98]) := by kernel_rfl
theorem sh_1 : oft 0 [0, 120] [0, 97] = true := by kernel_rfl
theorem sh_2 : oft 0 [0, 120] [0, 120] = false := by kernel_rfl
theorem sh_3 : oft 256 [0, 120] [0, 97] = false := by kernel_rfl
theorem z0 : -9223372036854775808 ≤ (0 : Int) ∧ (0 : Int) ≤ 9223372036854775807 := by omega
theorem leaves2 {W : World} {s g : Nat} {a b : UInt8} {f1 f2 f4 : Nat × Nat} (h1 : W.heap[s]? = some (.cells #[.int .u8 (a.toNat : Int)] 5 f1)) (h2 : W.heap[s + 1]? = some (.cells #[.int .u8 (b.toNat : Int)] 5 f2))
    (h4 : W.heap[g]? = some (.cells #[.slice (some ⟨s, 0, none⟩) 1 1, .slice (some ⟨s + 1, 0, none⟩) 1 1] 36 f4)) : LeavesV W (some ⟨g, 0, none⟩) 2 2 (ls2 s a b) := by
  refine ⟨rfl, Nat.le_refl _, by omega, fun _ => ⟨g, 0, rfl, fun i p hp => ?_⟩⟩
  rw [Nat.zero_add, cell_of_row W g i _ _ _ h4]
  match i, hp with
  | 0, hp => cases hp; exact ⟨rfl, one_bytes h1, (by omega : 1 ≤ 140737488355000), fun h => by cases h⟩
  | 1, hp => cases hp; exact ⟨rfl, one_bytes h2, (by omega : 1 ≤ 140737488355000), fun h => by cases h⟩
  | _ + 2, hp => simp [ls2] at hp
theorem one_path {W : World} {g : Nat} {d : List UInt8} {f : Nat × Nat} (h : W.heap[g]? = some (.cells (cellsOf d).toArray 24 f)) (hd : d.length = 32) : PathV W (some ⟨g, 0, none⟩) [d] := by
  refine ⟨fun e he => by rw [List.mem_singleton.1 he]; exact hd, fun _ => ⟨g, 0, rfl, fun k e he => ?_⟩⟩
  cases k with
  | zero =>
    cases he
    rw [Nat.zero_mul, Nat.zero_add]
    exact range_of h
  | succ k => simp at he
end Go.Proofs.YtaebpnednhkfhaaDoor
namespace Go.Proofs.YtaebpnednhkfhaaDoor
open Go.RowKit
set_option maxRecDepth 100000 in
set_option maxHeartbeats 4000000 in
theorem shown6_any (w : World) (hK : WW w 0 ks) (h0 : 0 < w.heap.size) : Calls Tryd.prog 46 #[] w fun e w' => e = .returned (.bool true) ∧ Below w.heap.size w w' := by
  have kc := fun (w : World) (C : Array Value) (n c : Nat) => Lib.run_convert_bytes_const (P := Tryd.prog) w 36 5 C n c Tryd.underlying36 Tryd.underlying5
  have kc1 : ∀ (o : Obj) (C : Array Value) (n c : Nat), (convert 36 36 (.slice (some ⟨w.heap.size + 1, 0, none⟩) n c)).run Tryd.prog ((w.alloc o).alloc (.cells C 5)) = .ok (.slice (some ⟨w.heap.size + 1, 0, none⟩) n c) ((w.alloc o).alloc (.cells C 5 (C.size, C.size + 1))) := fun o C n c => by
    have h := kc (w.alloc o) C n c
    rw [World.size_alloc] at h; exact h
  have kc2 : ∀ (o o2 : Obj) (C : Array Value) (n c : Nat), (convert 36 36 (.slice (some ⟨w.heap.size + 1 + 1, 0, none⟩) n c)).run Tryd.prog (((w.alloc o).alloc o2).alloc (.cells C 5)) = .ok (.slice (some ⟨w.heap.size + 1 + 1, 0, none⟩) n c) (((w.alloc o).alloc o2).alloc (.cells C 5 (C.size, C.size + 1))) := fun o o2 C n c => by
    have h := kc ((w.alloc o).alloc o2) C n c
    rw [World.size_alloc, World.size_alloc] at h; exact h
  have kcg : ∀ (w : World) (o : Obj) (C : Array Value) (n c : Nat), (convert 36 36 (.slice (some ⟨w.heap.size + 1, 0, none⟩) n c)).run Tryd.prog ((w.alloc o).alloc (.cells C 5)) = .ok (.slice (some ⟨w.heap.size + 1, 0, none⟩) n c) ((w.alloc o).alloc (.cells C 5 (C.size, C.size + 1))) := fun w o C n c => by
    have h := kc (w.alloc o) C n c
    rw [World.size_alloc] at h; exact h
  have HKW : Hid (WW w 0 ks ∧ 0 < w.heap.size) := ⟨hK, h0⟩
  clear hK h0
  go_enter Tryd.func46, Tryd.ntmps46
  go_upto_region 3 with fail
  obtain ⟨W0, HW0⟩ : ∃ W, Hid (W = (((w.alloc (Obj.cells #[.int .i64 0] 30)).alloc (Obj.cells #[.int .u8 97] 5 (1, 2))).alloc (Obj.cells #[.int .u8 98] 5 (1, 2))).alloc (Obj.cells #[.slice (some ⟨w.heap.size + 1, 0, none⟩) 1 1, .slice (some ⟨w.heap.size + 1 + 1, 0, none⟩) 1 1] 36)) := ⟨_, rfl⟩
  have HF := frame4 w (Obj.cells #[.int .i64 0] 30) (Obj.cells #[.int .u8 97] 5 (1, 2)) (Obj.cells #[.int .u8 98] 5 (1, 2)) #[.slice (some ⟨w.heap.size + 1, 0, none⟩) 1 1, .slice (some ⟨w.heap.size + 1 + 1, 0, none⟩) 1 1] 36 W0 HW0.out
  rw [← HW0.out]
  have HFH : Hid _ := HF
  clear HF HW0 kc1 kc2
  have HLV : Hid (LeavesV W0 (some ⟨w.heap.size + 3, 0, none⟩) 2 2 (ls2 (w.heap.size + 1) 97 98)) := leaves2 (a := 97) (b := 98) HFH.out.2.1 HFH.out.2.2.1 HFH.out.2.2.2.1
  have HKB : Hid (∀ W, Below W0.heap.size W0 W → WW W 0 ks ∧ 0 < W.heap.size) := fun W hW => by
    have h := HFH.out.2.2.2.2.1
    have h2 := h.size
    have h3 := hW.size
    have h4 := HKW.out.2
    have h5 := HFH.out.2.2.2.2.2
    exact ⟨(HKW.out.1.below h HKW.out.2).below hW (by omega), by omega⟩
  have HBW : Hid (∀ W, Below W0.heap.size W0 W → Below w.heap.size w W) := fun W hW => HFH.out.2.2.2.2.1.trans (hW.mono (by rw [HFH.out.2.2.2.2.2]; omega))
  have HCZ : Hid (∀ W, Below W0.heap.size W0 W → W.cell? ⟨w.heap.size, 0, none⟩ = some (.int .i64 0)) := fun W hW => bel_cell2 hW (Nat.le_refl _) (by rw [cell_of_row W0 _ 0 _ _ _ HFH.out.1]; rfl)
  have HX1 : Hid (∀ W g, Below W0.heap.size W0 W → W.heap[g]? = some (.cells #[.int .u8 120] 5 (1, 2)) → ∀ h, W.heap[h]? = some (.cells (cellsOf [0, 0, 0, 0, 0, 0, 0, 0, 0, 0, 0, 0, 0, 0, 0, 0, 0, 0, 0, 0, 0, 0, 0, 0, 0, 0, 0, 0, 0, 0, 0, 0]).toArray 24 (0, 0)) → Calls Tryd.prog 48 #[.agg #[.int .i64 0], .slice (some ⟨w.heap.size + 3, 0, none⟩) 2 2, .int .i64 0, .slice (some ⟨g, 0, none⟩) 1 1, .slice (some ⟨h, 0, none⟩) 1 1] W fun e w' => AnsR (some ([0, 120], [0, 97])) e w' ∧ Below W.heap.size W w') := fun W g hW hg h hh => by
    have h1 := ofOne_any 0 (some ⟨w.heap.size + 3, 0, none⟩) 2 2 _ 0 ⟨some ⟨g, 0, none⟩, 1, 1, [120]⟩ (some ⟨h, 0, none⟩) 1 1 [List.replicate 32 0] W (HLV.out.below hW (Nat.le_refl _)) (by omega) (one_bytes (a := 120) hg) (by show 1 ≤ 140737488355000; omega) (fun e => by cases e) (one_path (d := [0, 0, 0, 0, 0, 0, 0, 0, 0, 0, 0, 0, 0, 0, 0, 0, 0, 0, 0, 0, 0, 0, 0, 0, 0, 0, 0, 0, 0, 0, 0, 0]) hh rfl) rfl (Nat.le_refl _) (by omega) (HKB.out W hW).1 (HKB.out W hW).2 z0
    rw [sh_x] at h1
    exact h1
  have HX2 : Hid (∀ W g, Below W0.heap.size W0 W → W.heap[g]? = some (.cells #[.int .u8 97] 5 (1, 2)) → ∀ h, W.heap[h]? = some (.cells (cellsOf [0, 0, 0, 0, 0, 0, 0, 0, 0, 0, 0, 0, 0, 0, 0, 0, 0, 0, 0, 0, 0, 0, 0, 0, 0, 0, 0, 0, 0, 0, 0, 0]).toArray 24 (0, 0)) → Calls Tryd.prog 48 #[.agg #[.int .i64 0], .slice (some ⟨w.heap.size + 3, 0, none⟩) 2 2, .int .i64 0, .slice (some ⟨g, 0, none⟩) 1 1, .slice (some ⟨h, 0, none⟩) 1 1] W fun e w' => AnsR (none) e w' ∧ Below W.heap.size W w') := fun W g hW hg h hh => by
    have h1 := ofOne_any 0 (some ⟨w.heap.size + 3, 0, none⟩) 2 2 _ 0 ⟨some ⟨g, 0, none⟩, 1, 1, [97]⟩ (some ⟨h, 0, none⟩) 1 1 [List.replicate 32 0] W (HLV.out.below hW (Nat.le_refl _)) (by omega) (one_bytes (a := 97) hg) (by show 1 ≤ 140737488355000; omega) (fun e => by cases e) (one_path (d := [0, 0, 0, 0, 0, 0, 0, 0, 0, 0, 0, 0, 0, 0, 0, 0, 0, 0, 0, 0, 0, 0, 0, 0, 0, 0, 0, 0, 0, 0, 0, 0]) hh rfl) rfl (Nat.le_refl _) (by omega) (HKB.out W hW).1 (HKB.out W hW).2 z0
    rw [sh_a] at h1
    exact h1
  have HX3 : Hid (∀ W g s, Below W0.heap.size W0 W → W.heap[s]? = some (.cells #[.int .u8 97] 5 (1, 2)) → W.heap[s + 1]? = some (.cells #[.int .u8 99] 5 (1, 2)) → W.heap[g]? = some (.cells #[.slice (some ⟨s, 0, none⟩) 1 1, .slice (some ⟨s + 1, 0, none⟩) 1 1] 36 (0, 0)) → Calls Tryd.prog 54 #[.agg #[.int .i64 0], .slice (some ⟨w.heap.size + 3, 0, none⟩) 2 2, .slice (some ⟨g, 0, none⟩) 2 2] W fun e w' => AnsR (some ([0, 99], [0, 98])) e w' ∧ Below W.heap.size W w') := fun W g s hW h1 h2 h3 => by
    have h := ofLists_any 0 (some ⟨w.heap.size + 3, 0, none⟩) 2 2 _ (some ⟨g, 0, none⟩) 2 2 (ls2 s 97 99) W (HLV.out.below hW (Nat.le_refl _)) (by omega) (leaves2 (a := 97) (b := 99) h1 h2 h3) (by omega) (HKB.out W hW).1 (HKB.out W hW).2 z0
    rw [sh_l] at h
    exact h
  have HD0 : Hid ((List.replicate 32 (0 : UInt8)).length = 32) := by show _ = _; simp
  have hcz := HCZ.out _ (Below.refl _ _)
  have HB_W0 : Hid (Below W0.heap.size W0 W0) := Below.refl _ _
  go_wp2_with (refine wpList_build_dig _ rfl (.tmp 23) rfl (List.replicate 32 0) rfl HD0.out ?_)
  clear hcz
  have HA1 : Hid (Below W0.heap.size W0 ((W0.alloc (Obj.cells #[Value.int IntKind.u8 120] 5 (1, 2))).alloc (Obj.cells (cellsOf [0, 0, 0, 0, 0, 0, 0, 0, 0, 0, 0, 0, 0, 0, 0, 0, 0, 0, 0, 0, 0, 0, 0, 0, 0, 0, 0, 0, 0, 0, 0, 0]).toArray 24)) ∧ ((W0.alloc (Obj.cells #[Value.int IntKind.u8 120] 5 (1, 2))).alloc (Obj.cells (cellsOf [0, 0, 0, 0, 0, 0, 0, 0, 0, 0, 0, 0, 0, 0, 0, 0, 0, 0, 0, 0, 0, 0, 0, 0, 0, 0, 0, 0, 0, 0, 0, 0]).toArray 24)).heap[W0.heap.size]? = some (.cells #[.int .u8 120] 5 (1, 2)) ∧ ((W0.alloc (Obj.cells #[Value.int IntKind.u8 120] 5 (1, 2))).alloc (Obj.cells (cellsOf [0, 0, 0, 0, 0, 0, 0, 0, 0, 0, 0, 0, 0, 0, 0, 0, 0, 0, 0, 0, 0, 0, 0, 0, 0, 0, 0, 0, 0, 0, 0, 0]).toArray 24)).heap[W0.heap.size + 1]? = some (.cells (cellsOf [0, 0, 0, 0, 0, 0, 0, 0, 0, 0, 0, 0, 0, 0, 0, 0, 0, 0, 0, 0, 0, 0, 0, 0, 0, 0, 0, 0, 0, 0, 0, 0]).toArray 24 (0, 0))) := by
    obtain ⟨h1, h2, h3, -⟩ := frame2 W0 (Obj.cells #[Value.int IntKind.u8 120] 5 (1, 2)) (cellsOf [0, 0, 0, 0, 0, 0, 0, 0, 0, 0, 0, 0, 0, 0, 0, 0, 0, 0, 0, 0, 0, 0, 0, 0, 0, 0, 0, 0, 0, 0, 0, 0]).toArray 24
    exact ⟨HB_W0.out.trans (h3.mono HB_W0.out.size), h1, h2⟩
  refine (HX1.out _ _ HA1.out.1 HA1.out.2.1 _ HA1.out.2.2).mono ?_
  rintro e w1 ⟨⟨a1, n1, c1, b1, m1, d1, rfl, t1, t2⟩, hb1⟩
  have HB_w1 : Hid (Below W0.heap.size W0 w1) := HA1.out.1.trans (hb1.mono HA1.out.1.size)
  have HT1 : Hid (∀ W, Below w1.heap.size w1 W → TxV W a1 n1 c1 [0, 120] ∧ TxV W b1 m1 d1 [0, 97]) := fun W hW => ⟨t1.below hW (Nat.le_refl _), t2.below hW (Nat.le_refl _)⟩
  clear t1 t2 hb1 HA1
  have hcz := HCZ.out _ HB_w1.out
  go_wp2_with (refine wpList_build_dig _ rfl (.tmp 34) rfl (List.replicate 32 0) rfl HD0.out ?_)
  clear hcz
  have HA2 : Hid (Below W0.heap.size W0 ((w1.alloc (Obj.cells #[Value.int IntKind.u8 97] 5 (1, 2))).alloc (Obj.cells (cellsOf [0, 0, 0, 0, 0, 0, 0, 0, 0, 0, 0, 0, 0, 0, 0, 0, 0, 0, 0, 0, 0, 0, 0, 0, 0, 0, 0, 0, 0, 0, 0, 0]).toArray 24)) ∧ ((w1.alloc (Obj.cells #[Value.int IntKind.u8 97] 5 (1, 2))).alloc (Obj.cells (cellsOf [0, 0, 0, 0, 0, 0, 0, 0, 0, 0, 0, 0, 0, 0, 0, 0, 0, 0, 0, 0, 0, 0, 0, 0, 0, 0, 0, 0, 0, 0, 0, 0]).toArray 24)).heap[w1.heap.size]? = some (.cells #[.int .u8 97] 5 (1, 2)) ∧ ((w1.alloc (Obj.cells #[Value.int IntKind.u8 97] 5 (1, 2))).alloc (Obj.cells (cellsOf [0, 0, 0, 0, 0, 0, 0, 0, 0, 0, 0, 0, 0, 0, 0, 0, 0, 0, 0, 0, 0, 0, 0, 0, 0, 0, 0, 0, 0, 0, 0, 0]).toArray 24)).heap[w1.heap.size + 1]? = some (.cells (cellsOf [0, 0, 0, 0, 0, 0, 0, 0, 0, 0, 0, 0, 0, 0, 0, 0, 0, 0, 0, 0, 0, 0, 0, 0, 0, 0, 0, 0, 0, 0, 0, 0]).toArray 24 (0, 0))) := by
    obtain ⟨h1, h2, h3, -⟩ := frame2 w1 (Obj.cells #[Value.int IntKind.u8 97] 5 (1, 2)) (cellsOf [0, 0, 0, 0, 0, 0, 0, 0, 0, 0, 0, 0, 0, 0, 0, 0, 0, 0, 0, 0, 0, 0, 0, 0, 0, 0, 0, 0, 0, 0, 0, 0]).toArray 24
    exact ⟨HB_w1.out.trans (h3.mono HB_w1.out.size), h1, h2⟩
  refine (HX2.out _ _ HA2.out.1 HA2.out.2.1 _ HA2.out.2.2).mono ?_
  rintro e w2 ⟨⟨a2, n2, c2, b2, m2, d2, rfl, t1, t2⟩, hb1⟩
  have HB_w2 : Hid (Below W0.heap.size W0 w2) := HA2.out.1.trans (hb1.mono HA2.out.1.size)
  have HB12 : Hid (Below w1.heap.size w1 w2) := (frame2 w1 (Obj.cells #[Value.int IntKind.u8 97] 5 (1, 2)) (cellsOf [0, 0, 0, 0, 0, 0, 0, 0, 0, 0, 0, 0, 0, 0, 0, 0, 0, 0, 0, 0, 0, 0, 0, 0, 0, 0, 0, 0, 0, 0, 0, 0]).toArray 24).2.2.1.trans (hb1.mono (by simp; omega))
  clear t1 t2 hb1 HA2
  have hcz := HCZ.out _ HB_w2.out
  go_wp2_with fail
  clear hcz
  have HA3 : Hid (Below W0.heap.size W0 (((w2.alloc (Obj.cells #[Value.int IntKind.u8 97] 5 (1, 2))).alloc (Obj.cells #[Value.int IntKind.u8 99] 5 (1, 2))).alloc (Obj.cells #[Value.slice (some ⟨w2.heap.size, 0, none⟩) 1 1, Value.slice (some ⟨w2.heap.size + 1, 0, none⟩) 1 1] 36)) ∧ (((w2.alloc (Obj.cells #[Value.int IntKind.u8 97] 5 (1, 2))).alloc (Obj.cells #[Value.int IntKind.u8 99] 5 (1, 2))).alloc (Obj.cells #[Value.slice (some ⟨w2.heap.size, 0, none⟩) 1 1, Value.slice (some ⟨w2.heap.size + 1, 0, none⟩) 1 1] 36)).heap[w2.heap.size]? = some (.cells #[.int .u8 97] 5 (1, 2)) ∧ (((w2.alloc (Obj.cells #[Value.int IntKind.u8 97] 5 (1, 2))).alloc (Obj.cells #[Value.int IntKind.u8 99] 5 (1, 2))).alloc (Obj.cells #[Value.slice (some ⟨w2.heap.size, 0, none⟩) 1 1, Value.slice (some ⟨w2.heap.size + 1, 0, none⟩) 1 1] 36)).heap[w2.heap.size + 1]? = some (.cells #[.int .u8 99] 5 (1, 2)) ∧ (((w2.alloc (Obj.cells #[Value.int IntKind.u8 97] 5 (1, 2))).alloc (Obj.cells #[Value.int IntKind.u8 99] 5 (1, 2))).alloc (Obj.cells #[Value.slice (some ⟨w2.heap.size, 0, none⟩) 1 1, Value.slice (some ⟨w2.heap.size + 1, 0, none⟩) 1 1] 36)).heap[w2.heap.size + 1 + 1]? = some (.cells #[Value.slice (some ⟨w2.heap.size, 0, none⟩) 1 1, Value.slice (some ⟨w2.heap.size + 1, 0, none⟩) 1 1] 36 (0, 0)) ∧ Below w2.heap.size w2 (((w2.alloc (Obj.cells #[Value.int IntKind.u8 97] 5 (1, 2))).alloc (Obj.cells #[Value.int IntKind.u8 99] 5 (1, 2))).alloc (Obj.cells #[Value.slice (some ⟨w2.heap.size, 0, none⟩) 1 1, Value.slice (some ⟨w2.heap.size + 1, 0, none⟩) 1 1] 36))) := by
    have h := frame3 w2 (Obj.cells #[Value.int IntKind.u8 97] 5 (1, 2)) (Obj.cells #[Value.int IntKind.u8 99] 5 (1, 2)) (Obj.cells #[Value.slice (some ⟨w2.heap.size, 0, none⟩) 1 1, Value.slice (some ⟨w2.heap.size + 1, 0, none⟩) 1 1] 36)
    refine ⟨HB_w2.out.trans (h.2.2.mono HB_w2.out.size), ?_, h.1, h.2.1, h.2.2⟩
    rw [Below.heap_alloc _ _ _ (by simp; omega), Below.heap_alloc _ _ _ (by simp)]
    exact heap_alloc_new w2 _
  refine (HX3.out _ _ _ HA3.out.1 HA3.out.2.1 HA3.out.2.2.1 HA3.out.2.2.2.1).mono ?_
  rintro e w3 ⟨⟨a3, n3, c3, b3, m3, d3, rfl, t1, t2⟩, hb1⟩
  have HB_w3 : Hid (Below W0.heap.size W0 w3) := HA3.out.1.trans (hb1.mono HA3.out.1.size)
  have HB13 : Hid (Below w1.heap.size w1 w3) := HB12.out.trans ((HA3.out.2.2.2.2.trans (hb1.mono HA3.out.2.2.2.2.size)).mono HB12.out.size)
  have HT3 : Hid (TxV w3 a3 n3 c3 [0, 99] ∧ TxV w3 b3 m3 d3 [0, 98]) := ⟨t1, t2⟩
  have HTT : Hid (∀ W, Below w3.heap.size w3 W → TxV W a1 n1 c1 [0, 120] ∧ TxV W b1 m1 d1 [0, 97]) := fun W hW => HT1.out W (HB13.out.trans (hW.mono HB13.out.size))
  have HKB3 : Hid (∀ W, Below w3.heap.size w3 W → Below W0.heap.size W0 W) := fun W hW => HB_w3.out.trans (hW.mono HB_w3.out.size)
  have HO1 : Hid (∀ W, Below w3.heap.size w3 W → Calls Tryd.prog 50 #[.agg #[.int .i64 0], .slice a1 n1 c1, .slice b1 m1 d1] W fun e w' => e = .returned (.bool true) ∧ Below W.heap.size W w') := fun W hW => by
    have h := ofTexts_any 0 a1 n1 c1 _ b1 m1 d1 _ W (HTT.out W hW).1 (HTT.out W hW).2 (HKB.out W (HKB3.out W hW)).1 (HKB.out W (HKB3.out W hW)).2 z0
    rw [sh_1] at h; exact h
  have HO2 : Hid (∀ W, Below w3.heap.size w3 W → Calls Tryd.prog 50 #[.agg #[.int .i64 0], .slice a1 n1 c1, .slice a1 n1 c1] W fun e w' => e = .returned (.bool false) ∧ Below W.heap.size W w') := fun W hW => by
    have h := ofTexts_any 0 a1 n1 c1 _ a1 n1 c1 _ W (HTT.out W hW).1 (HTT.out W hW).1 (HKB.out W (HKB3.out W hW)).1 (HKB.out W (HKB3.out W hW)).2 z0
    rw [sh_2] at h; exact h
  have HO3 : Hid (∀ W, Below w3.heap.size w3 W → Calls Tryd.prog 50 #[.agg #[.int .i64 256], .slice a1 n1 c1, .slice b1 m1 d1] W fun e w' => e = .returned (.bool false) ∧ Below W.heap.size W w') := fun W hW => by
    have h := ofTexts_any 256 a1 n1 c1 _ b1 m1 d1 _ W (HTT.out W hW).1 (HTT.out W hW).2 (HKB.out W (HKB3.out W hW)).1 (HKB.out W (HKB3.out W hW)).2 z256
    rw [sh_3] at h; exact h
  have s1 := str_bytes c1 (HTT.out _ (Below.refl _ _)).1.1
  have s2 := str_bytes d1 (HTT.out _ (Below.refl _ _)).2.1
  have s3 := str_bytes c3 HT3.out.1.1
  have s4 := str_bytes d3 HT3.out.2.1
  have hcz := HCZ.out _ HB_w3.out
  clear t1 t2 hb1 HA3 kc kcg
  go_wp2_with fail
  clear s1 s2 s3 s4 hcz
  refine (HO1.out _ (Below.refl _ _)).mono ?_
  rintro e w4 ⟨rfl, hb4⟩
  have HB4 : Hid (Below w3.heap.size w3 w4) := hb4
  have hcz := HCZ.out _ (HKB3.out _ HB4.out)
  clear hb4
  go_wp2_with fail
  clear hcz
  refine (HO2.out _ HB4.out).mono ?_
  rintro e w5 ⟨rfl, hb5⟩
  have HB5 : Hid (Below w3.heap.size w3 w5) := HB4.out.trans (hb5.mono HB4.out.size)
  clear hb5
  go_wp2_with fail
  refine (HO3.out _ HB5.out).mono ?_
  rintro e w6 ⟨rfl, hb6⟩
  have HB6 : Hid (Below w3.heap.size w3 w6) := HB5.out.trans (hb6.mono HB5.out.size)
  clear hb6
  go_wp2_with fail
  go_ret
  exact ⟨rfl, HBW.out _ (HKB3.out _ HB6.out)⟩
end Go.Proofs.YtaebpnednhkfhaaDoor
