/-
  What marlstonelaw05.shown answers: a contract over this translation.
-/
import Derived.Test.YtaebpnednhkfhaaDoorPartK
import Derived.Lib.SlBytesConst
namespace Go.Proofs.YtaebpnednhkfhaaDoor
open Go.RowKit
set_option maxRecDepth 100000 in
set_option maxHeartbeats 4000000 in
theorem shown_any (w : World) (hK : WW w 0 ks) (h0 : 0 < w.heap.size) : Calls Tryd.prog 20 #[] w fun e w' => e = .returned (.bool true) ∧ Below w.heap.size w w' := by
  obtain ⟨la, HLAD⟩ : ∃ d, Hid (leafD 256 [97] = d) := ⟨_, rfl⟩
  obtain ⟨lb, HLBD⟩ : ∃ d, Hid (leafD 256 [98] = d) := ⟨_, rfl⟩
  obtain ⟨lc, HLCD⟩ : ∃ d, Hid (leafD 256 [99] = d) := ⟨_, rfl⟩
  have HLAL : Hid (la.length = 32) := by show _ = _; rw [← HLAD.out]; exact leafD_length _ _
  have HLBL : Hid (lb.length = 32) := by show _ = _; rw [← HLBD.out]; exact leafD_length _ _
  have HLCL : Hid (lc.length = 32) := by show _ = _; rw [← HLCD.out]; exact leafD_length _ _
  obtain ⟨ab, HABD⟩ : ∃ d, Hid (nodeD 256 la lb = d) := ⟨_, rfl⟩
  have HABL : Hid (ab.length = 32) := by show _ = _; rw [← HABD.out]; exact nodeD_length _ _ _
  obtain ⟨rt, HRTD⟩ : ∃ d, Hid (nodeD 256 ab lc = d) := ⟨_, rfl⟩
  have HRTL : Hid (rt.length = 32) := by show _ = _; rw [← HRTD.out]; exact nodeD_length _ _ _
  have kc := fun (w : World) (C : Array Value) (n c : Nat) => Lib.run_convert_bytes_const (P := Tryd.prog) w 36 5 C n c Tryd.underlying36 Tryd.underlying5
  have kc1 : ∀ (o : Obj) (C : Array Value) (n c : Nat), (convert 36 36 (.slice (some ⟨w.heap.size + 1, 0, none⟩) n c)).run Tryd.prog ((w.alloc o).alloc (.cells C 5)) = .ok (.slice (some ⟨w.heap.size + 1, 0, none⟩) n c) ((w.alloc o).alloc (.cells C 5 (C.size, C.size + 1))) := fun o C n c => by
    have h := kc (w.alloc o) C n c
    rw [World.size_alloc] at h; exact h
  have kc2 : ∀ (o o2 : Obj) (C : Array Value) (n c : Nat), (convert 36 36 (.slice (some ⟨w.heap.size + 1 + 1, 0, none⟩) n c)).run Tryd.prog (((w.alloc o).alloc o2).alloc (.cells C 5)) = .ok (.slice (some ⟨w.heap.size + 1 + 1, 0, none⟩) n c) (((w.alloc o).alloc o2).alloc (.cells C 5 (C.size, C.size + 1))) := fun o o2 C n c => by
    have h := kc ((w.alloc o).alloc o2) C n c
    rw [World.size_alloc, World.size_alloc] at h; exact h
  have HKW : Hid (WW w 0 ks ∧ 0 < w.heap.size) := ⟨hK, h0⟩
  clear hK h0
  go_enter Tryd.func20, Tryd.ntmps20
  go_upto_region 2 with fail
  obtain ⟨W0, HW0⟩ : ∃ W, Hid (W = (((w.alloc (Obj.cells #[.int .u8 97] 5 (1, 2))).alloc (Obj.cells #[.int .u8 98] 5 (1, 2))).alloc (Obj.cells #[.int .u8 99] 5 (1, 2))).alloc (Obj.cells #[.slice (some ⟨w.heap.size, 0, none⟩) 1 1, .slice (some ⟨w.heap.size + 1, 0, none⟩) 1 1, .slice (some ⟨w.heap.size + 1 + 1, 0, none⟩) 1 1] 36)) := ⟨_, rfl⟩
  have HF := frame4 w (Obj.cells #[.int .u8 97] 5 (1, 2)) (Obj.cells #[.int .u8 98] 5 (1, 2)) (Obj.cells #[.int .u8 99] 5 (1, 2)) #[.slice (some ⟨w.heap.size, 0, none⟩) 1 1, .slice (some ⟨w.heap.size + 1, 0, none⟩) 1 1, .slice (some ⟨w.heap.size + 1 + 1, 0, none⟩) 1 1] 36 W0 HW0.out
  rw [← HW0.out]
  have HFH : Hid _ := HF
  clear HF HW0
  have HLV : Hid (LeavesV W0 (some ⟨w.heap.size + 3, 0, none⟩) 3 3 (ls3 w.heap.size 97 98 99)) := leaves3 (a := 97) (b := 98) (c := 99) HFH.out.1 HFH.out.2.1 HFH.out.2.2.1 HFH.out.2.2.2.1
  have HKB : Hid (∀ W, Below W0.heap.size W0 W → WW W 0 ks ∧ 0 < W.heap.size) := fun W hW => by
    have h := HFH.out.2.2.2.2.1
    have h2 := h.size
    have h3 := hW.size
    have h4 := HKW.out.2
    have h5 := HFH.out.2.2.2.2.2
    exact ⟨(HKW.out.1.below h HKW.out.2).below hW (by omega), by omega⟩
  have HLA : Hid (∀ W, Below W0.heap.size W0 W → Calls Tryd.prog 31 #[.slice (some ⟨w.heap.size, 0, none⟩) 1 1] W fun e w' => e = .returned (dv la) ∧ Below W.heap.size W w') := fun W hW => by
    have h := leafN_any _ 1 1 [97] W (bytes_kept (one_bytes (a := 97) HFH.out.1) hW (Nat.le_refl _)) (fun h => by cases h) (by omega) (HKB.out W hW).1 (HKB.out W hW).2
    rw [HLAD.out] at h; exact h
  have HLB : Hid (∀ W, Below W0.heap.size W0 W → Calls Tryd.prog 31 #[.slice (some ⟨w.heap.size + 1, 0, none⟩) 1 1] W fun e w' => e = .returned (dv lb) ∧ Below W.heap.size W w') := fun W hW => by
    have h := leafN_any _ 1 1 [98] W (bytes_kept (one_bytes (a := 98) HFH.out.2.1) hW (Nat.le_refl _)) (fun h => by cases h) (by omega) (HKB.out W hW).1 (HKB.out W hW).2
    rw [HLBD.out] at h; exact h
  have HLC : Hid (∀ W, Below W0.heap.size W0 W → Calls Tryd.prog 31 #[.slice (some ⟨w.heap.size + 1 + 1, 0, none⟩) 1 1] W fun e w' => e = .returned (dv lc) ∧ Below W.heap.size W w') := fun W hW => by
    have h := leafN_any _ 1 1 [99] W (bytes_kept (one_bytes (a := 99) HFH.out.2.2.1) hW (Nat.le_refl _)) (fun h => by cases h) (by omega) (HKB.out W hW).1 (HKB.out W hW).2
    rw [HLCD.out] at h; exact h
  have HNO : Hid (∀ W, Below W0.heap.size W0 W → Calls Tryd.prog 28 #[.agg (cellsOf la).toArray, .agg (cellsOf lb).toArray] W fun e w' => e = .returned (dv ab) ∧ Below W.heap.size W w') := fun W hW => by
    have h := nodeN_any la lb W HLAL.out HLBL.out (HKB.out W hW).1 (HKB.out W hW).2
    rw [HABD.out] at h; exact h
  have HNR : Hid (∀ W, Below W0.heap.size W0 W → Calls Tryd.prog 28 #[.agg (cellsOf ab).toArray, .agg (cellsOf lc).toArray] W fun e w' => e = .returned (dv rt) ∧ Below W.heap.size W w') := fun W hW => by
    have h := nodeN_any ab lc W HABL.out HLCL.out (HKB.out W hW).1 (HKB.out W hW).2
    rw [HRTD.out] at h; exact h
  have HRO : Hid (∀ W, Below W0.heap.size W0 W → Calls Tryd.prog 25 #[.slice (some ⟨w.heap.size + 3, 0, none⟩) 3 3] W fun e w' => e = .returned (dv rt) ∧ Below W.heap.size W w') := fun W hW => by
    have h := rootN_any _ 3 3 _ W (HLV.out.below hW (Nat.le_refl _)) (by omega) (HKB.out W hW).1 (HKB.out W hW).2
    rw [show bytesL (ls3 w.heap.size 97 98 99) = [[97], [98], [99]] from rfl, root3, HLAD.out, HLBD.out, HLCD.out, HABD.out, HRTD.out] at h; exact h
  have HPA : Hid (∀ W, Below W0.heap.size W0 W → Calls Tryd.prog 38 #[.slice (some ⟨w.heap.size + 3, 0, none⟩) 3 3, .int .i64 2] W fun e w' => ∃ v, e = .returned (.tuple #[v, .int .i64 0]) ∧ DgV w' W.heap.size v [ab] ∧ Below W.heap.size W w') := fun W hW => by
    refine pathN_of _ 2 0 [ab] W (fun W2 hW2 => ?_)
    have hW2' : Below W0.heap.size W0 W2 := hW.trans (hW2.mono hW.size)
    have h := path_some 256 (w.heap.size + 3) 0 3 3 _ 2 W2 (HLV.out.below hW2' (Nat.le_refl _)) (by omega) (by omega) (HKB.out W2 hW2').1 (HKB.out W2 hW2').2 z256
    rw [show besideD 256 (ls3 w.heap.size 97 98 99) (spanS (upL 3 2)) = [ab] from by rw [ls3, path3]; simp only [HLAD.out, HLBD.out, HABD.out]] at h
    exact h
  have HRA : Hid (∀ W, Below W0.heap.size W0 W → Calls Tryd.prog 39 #[.slice (some ⟨w.heap.size + 3, 0, none⟩) 3 3, .int .i64 1, .int .i64 2] W fun e w' => ∃ v, e = .returned (.tuple #[v, .int .i64 0]) ∧ DgV w' W.heap.size v [la, lc] ∧ Below W.heap.size W w') := fun W hW => by
    refine rangeN_of _ 1 2 0 [la, lc] W (fun W2 hW2 => ?_)
    have hW2' : Below W0.heap.size W0 W2 := hW.trans (hW2.mono hW.size)
    have h := range_some 256 (w.heap.size + 3) 0 3 3 _ 1 2 W2 (HLV.out.below hW2' (Nat.le_refl _)) (by omega) (by omega) (by omega) (HKB.out W2 hW2').1 (HKB.out W2 hW2').2 z256
    rw [show besideD 256 (ls3 w.heap.size 97 98 99) (outL 0 3 1 2) = [la, lc] from by rw [ls3, range3]; simp only [HLAD.out, HLCD.out]] at h
    exact h
  have HS : Hid (∀ W, Below W0.heap.size W0 W → W.cell? ⟨w.heap.size + 3, 0, none⟩ = some (.slice (some ⟨w.heap.size, 0, none⟩) 1 1) ∧ W.cell? ⟨w.heap.size + 3, 1, none⟩ = some (.slice (some ⟨w.heap.size + 1, 0, none⟩) 1 1) ∧ W.cell? ⟨w.heap.size + 3, 2, none⟩ = some (.slice (some ⟨w.heap.size + 1 + 1, 0, none⟩) 1 1)) := fun W hW =>
    ⟨bel_cell2 hW (Nat.le_refl _) (by rw [cell_of_row W0 _ 0 _ _ _ HFH.out.2.2.2.1]; rfl), bel_cell2 hW (Nat.le_refl _) (by rw [cell_of_row W0 _ 1 _ _ _ HFH.out.2.2.2.1]; rfl), bel_cell2 hW (Nat.le_refl _) (by rw [cell_of_row W0 _ 2 _ _ _ HFH.out.2.2.2.1]; rfl)⟩
  clear kc kc1 kc2
  go_cut [2] (fun s2 wx => ∃ g, s2 = .pointer (some ⟨g, 0, none⟩) ∧ Hid (wx.heap[g]? = some (.cells (cellsOf ab).toArray 24 (0, 0))) ∧ Hid (W0.heap.size ≤ g) ∧ Hid (Below W0.heap.size W0 wx))
  case first =>
    refine wp_region_held_drew (S := fun W => W.cell? ⟨w.heap.size + 3, 0, none⟩ = some (.slice (some ⟨w.heap.size, 0, none⟩) 1 1) ∧ W.cell? ⟨w.heap.size + 3, 1, none⟩ = some (.slice (some ⟨w.heap.size + 1, 0, none⟩) 1 1) ∧ W.cell? ⟨w.heap.size + 3, 2, none⟩ = some (.slice (some ⟨w.heap.size + 1 + 1, 0, none⟩) 1 1)) (by kernel_rfl) (HS.out _ (Below.drew (Below.refl _ _))) (fun hS => ?_)
    refine wpAnyH_take (i := 0) (v := ?_) rfl (by kernel_rfl) (by kernel_rfl) (by kernel_rfl) (fun _ _ _ h => h) (Or.inl ⟨by rfl, ?_⟩) (by assumption) ?_
    rotate_left
    · (intro w hSw; (try dsimp only at hSw); go_simp; try with_reducible rfl)
    simp only [Act.put, List.getElem_toArray, List.getElem_cons_zero, List.setIfInBounds_toArray, List.set_cons_zero, List.set_cons_succ]
    refine wpAnyH_take (i := 1) (v := ?_) rfl (by kernel_rfl) (by kernel_rfl) (by kernel_rfl) (fun _ _ _ h => h) (Or.inl ⟨by rfl, ?_⟩) (by assumption) ?_
    rotate_left
    · (intro w hSw; (try dsimp only at hSw); go_simp; try with_reducible rfl)
    simp only [Act.put, List.getElem_toArray, List.getElem_cons_zero, List.getElem_cons_succ, List.setIfInBounds_toArray, List.set_cons_zero, List.set_cons_succ]
    refine wpAnyH_take (i := 2) (v := ?_) rfl (by kernel_rfl) (by kernel_rfl) (by kernel_rfl) (fun _ _ _ h => h) (Or.inl ⟨by rfl, ?_⟩) (by assumption) ?_
    rotate_left
    · (intro w hSw; (try dsimp only at hSw); go_simp; try with_reducible rfl)
    simp only [Act.put, List.getElem_toArray, List.getElem_cons_zero, List.getElem_cons_succ, List.setIfInBounds_toArray, List.set_cons_zero, List.set_cons_succ]
    refine wpAnyH_take (i := 4) (v := ?_) rfl (by kernel_rfl) (by kernel_rfl) (by kernel_rfl) (fun _ _ _ h => h) (Or.inl ⟨by rfl, ?_⟩) (by assumption) ?_
    rotate_left
    · (intro w hSw; (try dsimp only at hSw); go_simp; try with_reducible rfl)
    simp only [Act.put, List.getElem_toArray, List.getElem_cons_zero, List.getElem_cons_succ, List.setIfInBounds_toArray, List.set_cons_zero, List.set_cons_succ]
    refine wpAnyH_take (i := 5) (v := ?_) rfl (by kernel_rfl) (by kernel_rfl) (by kernel_rfl) (fun _ _ _ h => h) (Or.inl ⟨by rfl, ?_⟩) (by assumption) ?_
    rotate_left
    · (intro w hSw; (try dsimp only at hSw); go_simp; try with_reducible rfl)
    simp only [Act.put, List.getElem_toArray, List.getElem_cons_zero, List.getElem_cons_succ, List.setIfInBounds_toArray, List.set_cons_zero, List.set_cons_succ]
    refine wpAnyH_take (i := 6) (v := ?_) rfl (by kernel_rfl) (by kernel_rfl) (by kernel_rfl) (fun _ _ _ h => h) (Or.inl ⟨by rfl, ?_⟩) (by assumption) ?_
    rotate_left
    · (intro w hSw; (try dsimp only at hSw); go_simp; try with_reducible rfl)
    simp only [Act.put, List.getElem_toArray, List.getElem_cons_zero, List.getElem_cons_succ, List.setIfInBounds_toArray, List.set_cons_zero, List.set_cons_succ]
    refine wpAnyH_ready (rs := [3, 9]) (by kernel_rfl) (by simp) ?_
    refine AllReadyH.cons rfl (fun K hK => ?_) ?_
    · go_simp
      refine (HLA.out _ (Below.drew (Below.refl W0.heap.size W0))).mono ?_
      rintro e x0 ⟨rfl, hx0⟩
      have HBx0 : Hid (Below W0.heap.size W0 x0) := (Below.drew (Below.refl W0.heap.size W0)).trans (hx0.mono (Below.drew (Below.refl W0.heap.size W0)).size)
      try unfold dv
      go_wp2_with fail
      refine hK.out _ _ (HS.out _ HBx0.out) (fun hHeld2 => ?_)
      clear hK K
      refine wpAnyH_ready (rs := [7, 9]) (by kernel_rfl) (by simp) ?_
      refine AllReadyH.cons rfl (fun K hK => ?_) ?_
      · go_simp
        refine (HLB.out _ HBx0.out).mono ?_
        rintro e x1 ⟨rfl, hx1⟩
        have HBx1 : Hid (Below W0.heap.size W0 x1) := HBx0.out.trans (hx1.mono HBx0.out.size)
        try unfold dv
        go_wp2_with fail
        refine hK.out _ _ (HS.out _ HBx1.out) (fun hHeld2 => ?_)
        clear hK K
        refine wpAnyH_ready (rs := [8, 9]) (by kernel_rfl) (by simp) ?_
        refine AllReadyH.cons rfl (fun K hK => ?_) ?_
        · go_simp
          refine (HNO.out _ HBx1.out).mono ?_
          rintro e x2 ⟨rfl, hx2⟩
          have HBx2 : Hid (Below W0.heap.size W0 x2) := HBx1.out.trans (hx2.mono HBx1.out.size)
          try unfold dv
          go_wp2_with fail
          refine hK.out _ _ (HS.out _ HBx2.out) (fun hHeld2 => ?_)
          clear hK K
          refine wpAnyH_ready (rs := [9]) (by kernel_rfl) (by simp) ?_
          refine AllReadyH.cons rfl (fun K hK => ?_) AllReadyH.nil
          go_simp
          have HBax2 : Hid (Below W0.heap.size W0 (x2.alloc (Obj.cells #[Value.int IntKind.u8 0, Value.int IntKind.u8 0, Value.int IntKind.u8 0, Value.int IntKind.u8 0, Value.int IntKind.u8 0, Value.int IntKind.u8 0, Value.int IntKind.u8 0, Value.int IntKind.u8 0, Value.int IntKind.u8 0, Value.int IntKind.u8 0, Value.int IntKind.u8 0, Value.int IntKind.u8 0, Value.int IntKind.u8 0, Value.int IntKind.u8 0, Value.int IntKind.u8 0, Value.int IntKind.u8 0, Value.int IntKind.u8 0, Value.int IntKind.u8 0, Value.int IntKind.u8 0, Value.int IntKind.u8 0, Value.int IntKind.u8 0, Value.int IntKind.u8 0, Value.int IntKind.u8 0, Value.int IntKind.u8 0, Value.int IntKind.u8 0, Value.int IntKind.u8 0, Value.int IntKind.u8 0, Value.int IntKind.u8 0, Value.int IntKind.u8 0, Value.int IntKind.u8 0, Value.int IntKind.u8 0, Value.int IntKind.u8 0] 24))) := HBx2.out.trans ((bel_alloc _ _).mono HBx2.out.size)
          have HNax2 : Hid ((x2.alloc (Obj.cells #[Value.int IntKind.u8 0, Value.int IntKind.u8 0, Value.int IntKind.u8 0, Value.int IntKind.u8 0, Value.int IntKind.u8 0, Value.int IntKind.u8 0, Value.int IntKind.u8 0, Value.int IntKind.u8 0, Value.int IntKind.u8 0, Value.int IntKind.u8 0, Value.int IntKind.u8 0, Value.int IntKind.u8 0, Value.int IntKind.u8 0, Value.int IntKind.u8 0, Value.int IntKind.u8 0, Value.int IntKind.u8 0, Value.int IntKind.u8 0, Value.int IntKind.u8 0, Value.int IntKind.u8 0, Value.int IntKind.u8 0, Value.int IntKind.u8 0, Value.int IntKind.u8 0, Value.int IntKind.u8 0, Value.int IntKind.u8 0, Value.int IntKind.u8 0, Value.int IntKind.u8 0, Value.int IntKind.u8 0, Value.int IntKind.u8 0, Value.int IntKind.u8 0, Value.int IntKind.u8 0, Value.int IntKind.u8 0, Value.int IntKind.u8 0] 24)).heap[x2.heap.size]? = some (.cells #[Value.int IntKind.u8 0, Value.int IntKind.u8 0, Value.int IntKind.u8 0, Value.int IntKind.u8 0, Value.int IntKind.u8 0, Value.int IntKind.u8 0, Value.int IntKind.u8 0, Value.int IntKind.u8 0, Value.int IntKind.u8 0, Value.int IntKind.u8 0, Value.int IntKind.u8 0, Value.int IntKind.u8 0, Value.int IntKind.u8 0, Value.int IntKind.u8 0, Value.int IntKind.u8 0, Value.int IntKind.u8 0, Value.int IntKind.u8 0, Value.int IntKind.u8 0, Value.int IntKind.u8 0, Value.int IntKind.u8 0, Value.int IntKind.u8 0, Value.int IntKind.u8 0, Value.int IntKind.u8 0, Value.int IntKind.u8 0, Value.int IntKind.u8 0, Value.int IntKind.u8 0, Value.int IntKind.u8 0, Value.int IntKind.u8 0, Value.int IntKind.u8 0, Value.int IntKind.u8 0, Value.int IntKind.u8 0, Value.int IntKind.u8 0] 24 (0, 0))) := heap_alloc_new _ _
          refine hK.out _ _ (HS.out _ HBax2.out) (fun hHeld2 => ?_)
          clear hK K
          refine wpAnyH_ready (rs := [10]) (by kernel_rfl) (by simp) ?_
          refine AllReadyH.cons rfl (fun K hK => ?_) AllReadyH.nil
          rw [if_pos (by rfl)]
          refine wp_store_row 24 (.tmp 2) (.tmp 24) rfl x2.heap.size (cellsOf ab).toArray rfl rfl 24 _ HNax2.out (by rw [size24, dig_size HABL.out]) (by rw [dig_size HABL.out]; rfl) (cells_all _) ?_
          refine hK.out _ _ (HS.out _ (below_row HBax2.out (HBx2.out.size) _)) (fun hHeld2 => ?_)
          clear hK K
          refine wpAnyH_done (by kernel_rfl) ?_ _
          go_wp2_with fail
          go_meet
          exact ⟨_, rfl, setRow_heap _ _ _ _ _ _ HNax2.out, HBx2.out.size, below_row HBax2.out (HBx2.out.size) _⟩
        refine AllReadyH.cons rfl (fun K hK => ?_) AllReadyH.nil
        go_simp
        have HBax1 : Hid (Below W0.heap.size W0 (x1.alloc (Obj.cells #[Value.int IntKind.u8 0, Value.int IntKind.u8 0, Value.int IntKind.u8 0, Value.int IntKind.u8 0, Value.int IntKind.u8 0, Value.int IntKind.u8 0, Value.int IntKind.u8 0, Value.int IntKind.u8 0, Value.int IntKind.u8 0, Value.int IntKind.u8 0, Value.int IntKind.u8 0, Value.int IntKind.u8 0, Value.int IntKind.u8 0, Value.int IntKind.u8 0, Value.int IntKind.u8 0, Value.int IntKind.u8 0, Value.int IntKind.u8 0, Value.int IntKind.u8 0, Value.int IntKind.u8 0, Value.int IntKind.u8 0, Value.int IntKind.u8 0, Value.int IntKind.u8 0, Value.int IntKind.u8 0, Value.int IntKind.u8 0, Value.int IntKind.u8 0, Value.int IntKind.u8 0, Value.int IntKind.u8 0, Value.int IntKind.u8 0, Value.int IntKind.u8 0, Value.int IntKind.u8 0, Value.int IntKind.u8 0, Value.int IntKind.u8 0] 24))) := HBx1.out.trans ((bel_alloc _ _).mono HBx1.out.size)
        have HNax1 : Hid ((x1.alloc (Obj.cells #[Value.int IntKind.u8 0, Value.int IntKind.u8 0, Value.int IntKind.u8 0, Value.int IntKind.u8 0, Value.int IntKind.u8 0, Value.int IntKind.u8 0, Value.int IntKind.u8 0, Value.int IntKind.u8 0, Value.int IntKind.u8 0, Value.int IntKind.u8 0, Value.int IntKind.u8 0, Value.int IntKind.u8 0, Value.int IntKind.u8 0, Value.int IntKind.u8 0, Value.int IntKind.u8 0, Value.int IntKind.u8 0, Value.int IntKind.u8 0, Value.int IntKind.u8 0, Value.int IntKind.u8 0, Value.int IntKind.u8 0, Value.int IntKind.u8 0, Value.int IntKind.u8 0, Value.int IntKind.u8 0, Value.int IntKind.u8 0, Value.int IntKind.u8 0, Value.int IntKind.u8 0, Value.int IntKind.u8 0, Value.int IntKind.u8 0, Value.int IntKind.u8 0, Value.int IntKind.u8 0, Value.int IntKind.u8 0, Value.int IntKind.u8 0] 24)).heap[x1.heap.size]? = some (.cells #[Value.int IntKind.u8 0, Value.int IntKind.u8 0, Value.int IntKind.u8 0, Value.int IntKind.u8 0, Value.int IntKind.u8 0, Value.int IntKind.u8 0, Value.int IntKind.u8 0, Value.int IntKind.u8 0, Value.int IntKind.u8 0, Value.int IntKind.u8 0, Value.int IntKind.u8 0, Value.int IntKind.u8 0, Value.int IntKind.u8 0, Value.int IntKind.u8 0, Value.int IntKind.u8 0, Value.int IntKind.u8 0, Value.int IntKind.u8 0, Value.int IntKind.u8 0, Value.int IntKind.u8 0, Value.int IntKind.u8 0, Value.int IntKind.u8 0, Value.int IntKind.u8 0, Value.int IntKind.u8 0, Value.int IntKind.u8 0, Value.int IntKind.u8 0, Value.int IntKind.u8 0, Value.int IntKind.u8 0, Value.int IntKind.u8 0, Value.int IntKind.u8 0, Value.int IntKind.u8 0, Value.int IntKind.u8 0, Value.int IntKind.u8 0] 24 (0, 0))) := heap_alloc_new _ _
        refine hK.out _ _ (HS.out _ HBax1.out) (fun hHeld2 => ?_)
        clear hK K
        refine wpAnyH_ready (rs := [8]) (by kernel_rfl) (by simp) ?_
        refine AllReadyH.cons rfl (fun K hK => ?_) AllReadyH.nil
        go_simp
        refine (HNO.out _ HBax1.out).mono ?_
        rintro e x2a ⟨rfl, hx2a⟩
        have HBx2a : Hid (Below W0.heap.size W0 x2a) := HBax1.out.trans (hx2a.mono HBax1.out.size)
        have HNx2a : Hid (x2a.heap[x1.heap.size]? = some (.cells #[Value.int IntKind.u8 0, Value.int IntKind.u8 0, Value.int IntKind.u8 0, Value.int IntKind.u8 0, Value.int IntKind.u8 0, Value.int IntKind.u8 0, Value.int IntKind.u8 0, Value.int IntKind.u8 0, Value.int IntKind.u8 0, Value.int IntKind.u8 0, Value.int IntKind.u8 0, Value.int IntKind.u8 0, Value.int IntKind.u8 0, Value.int IntKind.u8 0, Value.int IntKind.u8 0, Value.int IntKind.u8 0, Value.int IntKind.u8 0, Value.int IntKind.u8 0, Value.int IntKind.u8 0, Value.int IntKind.u8 0, Value.int IntKind.u8 0, Value.int IntKind.u8 0, Value.int IntKind.u8 0, Value.int IntKind.u8 0, Value.int IntKind.u8 0, Value.int IntKind.u8 0, Value.int IntKind.u8 0, Value.int IntKind.u8 0, Value.int IntKind.u8 0, Value.int IntKind.u8 0, Value.int IntKind.u8 0, Value.int IntKind.u8 0] 24 (0, 0))) := (hx2a.block _ ((Array.getElem?_eq_some_iff.1 HNax1.out).1)).trans HNax1.out
        try unfold dv
        go_wp2_with fail
        refine hK.out _ _ (HS.out _ HBx2a.out) (fun hHeld2 => ?_)
        clear hK K
        refine wpAnyH_ready (rs := [10]) (by kernel_rfl) (by simp) ?_
        refine AllReadyH.cons rfl (fun K hK => ?_) AllReadyH.nil
        rw [if_pos (by rfl)]
        refine wp_store_row 24 (.tmp 2) (.tmp 24) rfl x1.heap.size (cellsOf ab).toArray rfl rfl 24 _ HNx2a.out (by rw [size24, dig_size HABL.out]) (by rw [dig_size HABL.out]; rfl) (cells_all _) ?_
        refine hK.out _ _ (HS.out _ (below_row HBx2a.out (HBx1.out.size) _)) (fun hHeld2 => ?_)
        clear hK K
        refine wpAnyH_done (by kernel_rfl) ?_ _
        go_wp2_with fail
        go_meet
        exact ⟨_, rfl, setRow_heap _ _ _ _ _ _ HNx2a.out, HBx1.out.size, below_row HBx2a.out (HBx1.out.size) _⟩
      refine AllReadyH.cons rfl (fun K hK => ?_) AllReadyH.nil
      go_simp
      have HBax0 : Hid (Below W0.heap.size W0 (x0.alloc (Obj.cells #[Value.int IntKind.u8 0, Value.int IntKind.u8 0, Value.int IntKind.u8 0, Value.int IntKind.u8 0, Value.int IntKind.u8 0, Value.int IntKind.u8 0, Value.int IntKind.u8 0, Value.int IntKind.u8 0, Value.int IntKind.u8 0, Value.int IntKind.u8 0, Value.int IntKind.u8 0, Value.int IntKind.u8 0, Value.int IntKind.u8 0, Value.int IntKind.u8 0, Value.int IntKind.u8 0, Value.int IntKind.u8 0, Value.int IntKind.u8 0, Value.int IntKind.u8 0, Value.int IntKind.u8 0, Value.int IntKind.u8 0, Value.int IntKind.u8 0, Value.int IntKind.u8 0, Value.int IntKind.u8 0, Value.int IntKind.u8 0, Value.int IntKind.u8 0, Value.int IntKind.u8 0, Value.int IntKind.u8 0, Value.int IntKind.u8 0, Value.int IntKind.u8 0, Value.int IntKind.u8 0, Value.int IntKind.u8 0, Value.int IntKind.u8 0] 24))) := HBx0.out.trans ((bel_alloc _ _).mono HBx0.out.size)
      have HNax0 : Hid ((x0.alloc (Obj.cells #[Value.int IntKind.u8 0, Value.int IntKind.u8 0, Value.int IntKind.u8 0, Value.int IntKind.u8 0, Value.int IntKind.u8 0, Value.int IntKind.u8 0, Value.int IntKind.u8 0, Value.int IntKind.u8 0, Value.int IntKind.u8 0, Value.int IntKind.u8 0, Value.int IntKind.u8 0, Value.int IntKind.u8 0, Value.int IntKind.u8 0, Value.int IntKind.u8 0, Value.int IntKind.u8 0, Value.int IntKind.u8 0, Value.int IntKind.u8 0, Value.int IntKind.u8 0, Value.int IntKind.u8 0, Value.int IntKind.u8 0, Value.int IntKind.u8 0, Value.int IntKind.u8 0, Value.int IntKind.u8 0, Value.int IntKind.u8 0, Value.int IntKind.u8 0, Value.int IntKind.u8 0, Value.int IntKind.u8 0, Value.int IntKind.u8 0, Value.int IntKind.u8 0, Value.int IntKind.u8 0, Value.int IntKind.u8 0, Value.int IntKind.u8 0] 24)).heap[x0.heap.size]? = some (.cells #[Value.int IntKind.u8 0, Value.int IntKind.u8 0, Value.int IntKind.u8 0, Value.int IntKind.u8 0, Value.int IntKind.u8 0, Value.int IntKind.u8 0, Value.int IntKind.u8 0, Value.int IntKind.u8 0, Value.int IntKind.u8 0, Value.int IntKind.u8 0, Value.int IntKind.u8 0, Value.int IntKind.u8 0, Value.int IntKind.u8 0, Value.int IntKind.u8 0, Value.int IntKind.u8 0, Value.int IntKind.u8 0, Value.int IntKind.u8 0, Value.int IntKind.u8 0, Value.int IntKind.u8 0, Value.int IntKind.u8 0, Value.int IntKind.u8 0, Value.int IntKind.u8 0, Value.int IntKind.u8 0, Value.int IntKind.u8 0, Value.int IntKind.u8 0, Value.int IntKind.u8 0, Value.int IntKind.u8 0, Value.int IntKind.u8 0, Value.int IntKind.u8 0, Value.int IntKind.u8 0, Value.int IntKind.u8 0, Value.int IntKind.u8 0] 24 (0, 0))) := heap_alloc_new _ _
      refine hK.out _ _ (HS.out _ HBax0.out) (fun hHeld2 => ?_)
      clear hK K
      refine wpAnyH_ready (rs := [7]) (by kernel_rfl) (by simp) ?_
      refine AllReadyH.cons rfl (fun K hK => ?_) AllReadyH.nil
      go_simp
      refine (HLB.out _ HBax0.out).mono ?_
      rintro e x1a ⟨rfl, hx1a⟩
      have HBx1a : Hid (Below W0.heap.size W0 x1a) := HBax0.out.trans (hx1a.mono HBax0.out.size)
      have HNx1a : Hid (x1a.heap[x0.heap.size]? = some (.cells #[Value.int IntKind.u8 0, Value.int IntKind.u8 0, Value.int IntKind.u8 0, Value.int IntKind.u8 0, Value.int IntKind.u8 0, Value.int IntKind.u8 0, Value.int IntKind.u8 0, Value.int IntKind.u8 0, Value.int IntKind.u8 0, Value.int IntKind.u8 0, Value.int IntKind.u8 0, Value.int IntKind.u8 0, Value.int IntKind.u8 0, Value.int IntKind.u8 0, Value.int IntKind.u8 0, Value.int IntKind.u8 0, Value.int IntKind.u8 0, Value.int IntKind.u8 0, Value.int IntKind.u8 0, Value.int IntKind.u8 0, Value.int IntKind.u8 0, Value.int IntKind.u8 0, Value.int IntKind.u8 0, Value.int IntKind.u8 0, Value.int IntKind.u8 0, Value.int IntKind.u8 0, Value.int IntKind.u8 0, Value.int IntKind.u8 0, Value.int IntKind.u8 0, Value.int IntKind.u8 0, Value.int IntKind.u8 0, Value.int IntKind.u8 0] 24 (0, 0))) := (hx1a.block _ ((Array.getElem?_eq_some_iff.1 HNax0.out).1)).trans HNax0.out
      try unfold dv
      go_wp2_with fail
      refine hK.out _ _ (HS.out _ HBx1a.out) (fun hHeld2 => ?_)
      clear hK K
      refine wpAnyH_ready (rs := [8]) (by kernel_rfl) (by simp) ?_
      refine AllReadyH.cons rfl (fun K hK => ?_) AllReadyH.nil
      go_simp
      refine (HNO.out _ HBx1a.out).mono ?_
      rintro e x2a ⟨rfl, hx2a⟩
      have HBx2a : Hid (Below W0.heap.size W0 x2a) := HBx1a.out.trans (hx2a.mono HBx1a.out.size)
      have HNx2a : Hid (x2a.heap[x0.heap.size]? = some (.cells #[Value.int IntKind.u8 0, Value.int IntKind.u8 0, Value.int IntKind.u8 0, Value.int IntKind.u8 0, Value.int IntKind.u8 0, Value.int IntKind.u8 0, Value.int IntKind.u8 0, Value.int IntKind.u8 0, Value.int IntKind.u8 0, Value.int IntKind.u8 0, Value.int IntKind.u8 0, Value.int IntKind.u8 0, Value.int IntKind.u8 0, Value.int IntKind.u8 0, Value.int IntKind.u8 0, Value.int IntKind.u8 0, Value.int IntKind.u8 0, Value.int IntKind.u8 0, Value.int IntKind.u8 0, Value.int IntKind.u8 0, Value.int IntKind.u8 0, Value.int IntKind.u8 0, Value.int IntKind.u8 0, Value.int IntKind.u8 0, Value.int IntKind.u8 0, Value.int IntKind.u8 0, Value.int IntKind.u8 0, Value.int IntKind.u8 0, Value.int IntKind.u8 0, Value.int IntKind.u8 0, Value.int IntKind.u8 0, Value.int IntKind.u8 0] 24 (0, 0))) := (hx2a.block _ ((Array.getElem?_eq_some_iff.1 HNx1a.out).1)).trans HNx1a.out
      try unfold dv
      go_wp2_with fail
      refine hK.out _ _ (HS.out _ HBx2a.out) (fun hHeld2 => ?_)
      clear hK K
      refine wpAnyH_ready (rs := [10]) (by kernel_rfl) (by simp) ?_
      refine AllReadyH.cons rfl (fun K hK => ?_) AllReadyH.nil
      rw [if_pos (by rfl)]
      refine wp_store_row 24 (.tmp 2) (.tmp 24) rfl x0.heap.size (cellsOf ab).toArray rfl rfl 24 _ HNx2a.out (by rw [size24, dig_size HABL.out]) (by rw [dig_size HABL.out]; rfl) (cells_all _) ?_
      refine hK.out _ _ (HS.out _ (below_row HBx2a.out (HBx0.out.size) _)) (fun hHeld2 => ?_)
      clear hK K
      refine wpAnyH_done (by kernel_rfl) ?_ _
      go_wp2_with fail
      go_meet
      exact ⟨_, rfl, setRow_heap _ _ _ _ _ _ HNx2a.out, HBx0.out.size, below_row HBx2a.out (HBx0.out.size) _⟩
    refine AllReadyH.cons rfl (fun K hK => ?_) AllReadyH.nil
    go_simp
    have HBaW0 : Hid (Below W0.heap.size W0 (W0.alloc (Obj.cells #[Value.int IntKind.u8 0, Value.int IntKind.u8 0, Value.int IntKind.u8 0, Value.int IntKind.u8 0, Value.int IntKind.u8 0, Value.int IntKind.u8 0, Value.int IntKind.u8 0, Value.int IntKind.u8 0, Value.int IntKind.u8 0, Value.int IntKind.u8 0, Value.int IntKind.u8 0, Value.int IntKind.u8 0, Value.int IntKind.u8 0, Value.int IntKind.u8 0, Value.int IntKind.u8 0, Value.int IntKind.u8 0, Value.int IntKind.u8 0, Value.int IntKind.u8 0, Value.int IntKind.u8 0, Value.int IntKind.u8 0, Value.int IntKind.u8 0, Value.int IntKind.u8 0, Value.int IntKind.u8 0, Value.int IntKind.u8 0, Value.int IntKind.u8 0, Value.int IntKind.u8 0, Value.int IntKind.u8 0, Value.int IntKind.u8 0, Value.int IntKind.u8 0, Value.int IntKind.u8 0, Value.int IntKind.u8 0, Value.int IntKind.u8 0] 24)).drew) := Below.drew (bel_alloc W0 _)
    have HNaW0 : Hid ((W0.alloc (Obj.cells #[Value.int IntKind.u8 0, Value.int IntKind.u8 0, Value.int IntKind.u8 0, Value.int IntKind.u8 0, Value.int IntKind.u8 0, Value.int IntKind.u8 0, Value.int IntKind.u8 0, Value.int IntKind.u8 0, Value.int IntKind.u8 0, Value.int IntKind.u8 0, Value.int IntKind.u8 0, Value.int IntKind.u8 0, Value.int IntKind.u8 0, Value.int IntKind.u8 0, Value.int IntKind.u8 0, Value.int IntKind.u8 0, Value.int IntKind.u8 0, Value.int IntKind.u8 0, Value.int IntKind.u8 0, Value.int IntKind.u8 0, Value.int IntKind.u8 0, Value.int IntKind.u8 0, Value.int IntKind.u8 0, Value.int IntKind.u8 0, Value.int IntKind.u8 0, Value.int IntKind.u8 0, Value.int IntKind.u8 0, Value.int IntKind.u8 0, Value.int IntKind.u8 0, Value.int IntKind.u8 0, Value.int IntKind.u8 0, Value.int IntKind.u8 0] 24)).drew.heap[W0.heap.size]? = some (.cells #[Value.int IntKind.u8 0, Value.int IntKind.u8 0, Value.int IntKind.u8 0, Value.int IntKind.u8 0, Value.int IntKind.u8 0, Value.int IntKind.u8 0, Value.int IntKind.u8 0, Value.int IntKind.u8 0, Value.int IntKind.u8 0, Value.int IntKind.u8 0, Value.int IntKind.u8 0, Value.int IntKind.u8 0, Value.int IntKind.u8 0, Value.int IntKind.u8 0, Value.int IntKind.u8 0, Value.int IntKind.u8 0, Value.int IntKind.u8 0, Value.int IntKind.u8 0, Value.int IntKind.u8 0, Value.int IntKind.u8 0, Value.int IntKind.u8 0, Value.int IntKind.u8 0, Value.int IntKind.u8 0, Value.int IntKind.u8 0, Value.int IntKind.u8 0, Value.int IntKind.u8 0, Value.int IntKind.u8 0, Value.int IntKind.u8 0, Value.int IntKind.u8 0, Value.int IntKind.u8 0, Value.int IntKind.u8 0, Value.int IntKind.u8 0] 24 (0, 0))) := heap_alloc_new _ _
    refine hK.out _ _ (HS.out _ HBaW0.out) (fun hHeld2 => ?_)
    clear hK K
    refine wpAnyH_ready (rs := [3]) (by kernel_rfl) (by simp) ?_
    refine AllReadyH.cons rfl (fun K hK => ?_) AllReadyH.nil
    go_simp
    refine (HLA.out _ HBaW0.out).mono ?_
    rintro e x0a ⟨rfl, hx0a⟩
    have HBx0a : Hid (Below W0.heap.size W0 x0a) := HBaW0.out.trans (hx0a.mono HBaW0.out.size)
    have HNx0a : Hid (x0a.heap[W0.heap.size]? = some (.cells #[Value.int IntKind.u8 0, Value.int IntKind.u8 0, Value.int IntKind.u8 0, Value.int IntKind.u8 0, Value.int IntKind.u8 0, Value.int IntKind.u8 0, Value.int IntKind.u8 0, Value.int IntKind.u8 0, Value.int IntKind.u8 0, Value.int IntKind.u8 0, Value.int IntKind.u8 0, Value.int IntKind.u8 0, Value.int IntKind.u8 0, Value.int IntKind.u8 0, Value.int IntKind.u8 0, Value.int IntKind.u8 0, Value.int IntKind.u8 0, Value.int IntKind.u8 0, Value.int IntKind.u8 0, Value.int IntKind.u8 0, Value.int IntKind.u8 0, Value.int IntKind.u8 0, Value.int IntKind.u8 0, Value.int IntKind.u8 0, Value.int IntKind.u8 0, Value.int IntKind.u8 0, Value.int IntKind.u8 0, Value.int IntKind.u8 0, Value.int IntKind.u8 0, Value.int IntKind.u8 0, Value.int IntKind.u8 0, Value.int IntKind.u8 0] 24 (0, 0))) := (hx0a.block _ ((Array.getElem?_eq_some_iff.1 HNaW0.out).1)).trans HNaW0.out
    try unfold dv
    go_wp2_with fail
    refine hK.out _ _ (HS.out _ HBx0a.out) (fun hHeld2 => ?_)
    clear hK K
    refine wpAnyH_ready (rs := [7]) (by kernel_rfl) (by simp) ?_
    refine AllReadyH.cons rfl (fun K hK => ?_) AllReadyH.nil
    go_simp
    refine (HLB.out _ HBx0a.out).mono ?_
    rintro e x1a ⟨rfl, hx1a⟩
    have HBx1a : Hid (Below W0.heap.size W0 x1a) := HBx0a.out.trans (hx1a.mono HBx0a.out.size)
    have HNx1a : Hid (x1a.heap[W0.heap.size]? = some (.cells #[Value.int IntKind.u8 0, Value.int IntKind.u8 0, Value.int IntKind.u8 0, Value.int IntKind.u8 0, Value.int IntKind.u8 0, Value.int IntKind.u8 0, Value.int IntKind.u8 0, Value.int IntKind.u8 0, Value.int IntKind.u8 0, Value.int IntKind.u8 0, Value.int IntKind.u8 0, Value.int IntKind.u8 0, Value.int IntKind.u8 0, Value.int IntKind.u8 0, Value.int IntKind.u8 0, Value.int IntKind.u8 0, Value.int IntKind.u8 0, Value.int IntKind.u8 0, Value.int IntKind.u8 0, Value.int IntKind.u8 0, Value.int IntKind.u8 0, Value.int IntKind.u8 0, Value.int IntKind.u8 0, Value.int IntKind.u8 0, Value.int IntKind.u8 0, Value.int IntKind.u8 0, Value.int IntKind.u8 0, Value.int IntKind.u8 0, Value.int IntKind.u8 0, Value.int IntKind.u8 0, Value.int IntKind.u8 0, Value.int IntKind.u8 0] 24 (0, 0))) := (hx1a.block _ ((Array.getElem?_eq_some_iff.1 HNx0a.out).1)).trans HNx0a.out
    try unfold dv
    go_wp2_with fail
    refine hK.out _ _ (HS.out _ HBx1a.out) (fun hHeld2 => ?_)
    clear hK K
    refine wpAnyH_ready (rs := [8]) (by kernel_rfl) (by simp) ?_
    refine AllReadyH.cons rfl (fun K hK => ?_) AllReadyH.nil
    go_simp
    refine (HNO.out _ HBx1a.out).mono ?_
    rintro e x2a ⟨rfl, hx2a⟩
    have HBx2a : Hid (Below W0.heap.size W0 x2a) := HBx1a.out.trans (hx2a.mono HBx1a.out.size)
    have HNx2a : Hid (x2a.heap[W0.heap.size]? = some (.cells #[Value.int IntKind.u8 0, Value.int IntKind.u8 0, Value.int IntKind.u8 0, Value.int IntKind.u8 0, Value.int IntKind.u8 0, Value.int IntKind.u8 0, Value.int IntKind.u8 0, Value.int IntKind.u8 0, Value.int IntKind.u8 0, Value.int IntKind.u8 0, Value.int IntKind.u8 0, Value.int IntKind.u8 0, Value.int IntKind.u8 0, Value.int IntKind.u8 0, Value.int IntKind.u8 0, Value.int IntKind.u8 0, Value.int IntKind.u8 0, Value.int IntKind.u8 0, Value.int IntKind.u8 0, Value.int IntKind.u8 0, Value.int IntKind.u8 0, Value.int IntKind.u8 0, Value.int IntKind.u8 0, Value.int IntKind.u8 0, Value.int IntKind.u8 0, Value.int IntKind.u8 0, Value.int IntKind.u8 0, Value.int IntKind.u8 0, Value.int IntKind.u8 0, Value.int IntKind.u8 0, Value.int IntKind.u8 0, Value.int IntKind.u8 0] 24 (0, 0))) := (hx2a.block _ ((Array.getElem?_eq_some_iff.1 HNx1a.out).1)).trans HNx1a.out
    try unfold dv
    go_wp2_with fail
    refine hK.out _ _ (HS.out _ HBx2a.out) (fun hHeld2 => ?_)
    clear hK K
    refine wpAnyH_ready (rs := [10]) (by kernel_rfl) (by simp) ?_
    refine AllReadyH.cons rfl (fun K hK => ?_) AllReadyH.nil
    rw [if_pos (by rfl)]
    refine wp_store_row 24 (.tmp 2) (.tmp 24) rfl W0.heap.size (cellsOf ab).toArray rfl rfl 24 _ HNx2a.out (by rw [size24, dig_size HABL.out]) (by rw [dig_size HABL.out]; rfl) (cells_all _) ?_
    refine hK.out _ _ (HS.out _ (below_row HBx2a.out (Nat.le_refl _) _)) (fun hHeld2 => ?_)
    clear hK K
    refine wpAnyH_done (by kernel_rfl) ?_ _
    go_wp2_with fail
    go_meet
    exact ⟨_, rfl, setRow_heap _ _ _ _ _ _ HNx2a.out, Nat.le_refl _, below_row HBx2a.out (Nat.le_refl _) _⟩
  case rest =>
    obtain ⟨g, rfl, HG, HGL, HBC⟩ := hcut
    go_wp2_with fail
    refine (HRO.out _ HBC.out).mono ?_
    rintro e w1 ⟨rfl, hb1⟩
    have HB1 : Hid (Below W0.heap.size W0 w1) := HBC.out.trans (hb1.mono HBC.out.size)
    have HGB : Hid (g < wc.heap.size) := (Array.getElem?_eq_some_iff.1 HG.out).1
    have HG1 : Hid (w1.heap[g]? = some (.cells (cellsOf ab).toArray 24 (0, 0))) := (hb1.block _ HGB.out).trans HG.out
    have HG1L : Hid (g < w1.heap.size) := (Array.getElem?_eq_some_iff.1 HG1.out).1
    clear hb1 HG HGB HBC
    unfold dv
    have HN1 : Hid ((w1.alloc (.cells #[Value.int IntKind.u8 0, Value.int IntKind.u8 0, Value.int IntKind.u8 0, Value.int IntKind.u8 0, Value.int IntKind.u8 0, Value.int IntKind.u8 0, Value.int IntKind.u8 0, Value.int IntKind.u8 0, Value.int IntKind.u8 0, Value.int IntKind.u8 0, Value.int IntKind.u8 0, Value.int IntKind.u8 0, Value.int IntKind.u8 0, Value.int IntKind.u8 0, Value.int IntKind.u8 0, Value.int IntKind.u8 0, Value.int IntKind.u8 0, Value.int IntKind.u8 0, Value.int IntKind.u8 0, Value.int IntKind.u8 0, Value.int IntKind.u8 0, Value.int IntKind.u8 0, Value.int IntKind.u8 0, Value.int IntKind.u8 0, Value.int IntKind.u8 0, Value.int IntKind.u8 0, Value.int IntKind.u8 0, Value.int IntKind.u8 0, Value.int IntKind.u8 0, Value.int IntKind.u8 0, Value.int IntKind.u8 0, Value.int IntKind.u8 0] 24)).heap[w1.heap.size]? = some (.cells #[Value.int IntKind.u8 0, Value.int IntKind.u8 0, Value.int IntKind.u8 0, Value.int IntKind.u8 0, Value.int IntKind.u8 0, Value.int IntKind.u8 0, Value.int IntKind.u8 0, Value.int IntKind.u8 0, Value.int IntKind.u8 0, Value.int IntKind.u8 0, Value.int IntKind.u8 0, Value.int IntKind.u8 0, Value.int IntKind.u8 0, Value.int IntKind.u8 0, Value.int IntKind.u8 0, Value.int IntKind.u8 0, Value.int IntKind.u8 0, Value.int IntKind.u8 0, Value.int IntKind.u8 0, Value.int IntKind.u8 0, Value.int IntKind.u8 0, Value.int IntKind.u8 0, Value.int IntKind.u8 0, Value.int IntKind.u8 0, Value.int IntKind.u8 0, Value.int IntKind.u8 0, Value.int IntKind.u8 0, Value.int IntKind.u8 0, Value.int IntKind.u8 0, Value.int IntKind.u8 0, Value.int IntKind.u8 0, Value.int IntKind.u8 0] 24 (0, 0))) := heap_alloc_new w1 _
    go_wp2_with (refine wpList_store_row rfl 24 (.tmp 3) (.tmp 26) rfl w1.heap.size (cellsOf rt).toArray rfl rfl 24 _ HN1.out (by rw [size24, dig_size HRTL.out]) (by rw [dig_size HRTL.out]; rfl) (cells_all _) ?_)
    have HR2 := setRow_heap _ _ _ (cellsOf rt).toArray _ _ HN1.out
    have HB2 : Below w1.heap.size w1 ((w1.alloc (.cells #[Value.int IntKind.u8 0, Value.int IntKind.u8 0, Value.int IntKind.u8 0, Value.int IntKind.u8 0, Value.int IntKind.u8 0, Value.int IntKind.u8 0, Value.int IntKind.u8 0, Value.int IntKind.u8 0, Value.int IntKind.u8 0, Value.int IntKind.u8 0, Value.int IntKind.u8 0, Value.int IntKind.u8 0, Value.int IntKind.u8 0, Value.int IntKind.u8 0, Value.int IntKind.u8 0, Value.int IntKind.u8 0, Value.int IntKind.u8 0, Value.int IntKind.u8 0, Value.int IntKind.u8 0, Value.int IntKind.u8 0, Value.int IntKind.u8 0, Value.int IntKind.u8 0, Value.int IntKind.u8 0, Value.int IntKind.u8 0, Value.int IntKind.u8 0, Value.int IntKind.u8 0, Value.int IntKind.u8 0, Value.int IntKind.u8 0, Value.int IntKind.u8 0, Value.int IntKind.u8 0, Value.int IntKind.u8 0, Value.int IntKind.u8 0] 24)).setRow w1.heap.size (cellsOf rt).toArray) := below_row (bel_alloc w1 _) (Nat.le_refl _) _
    obtain ⟨w2, HW2⟩ : ∃ W, Hid ((w1.alloc (.cells #[Value.int IntKind.u8 0, Value.int IntKind.u8 0, Value.int IntKind.u8 0, Value.int IntKind.u8 0, Value.int IntKind.u8 0, Value.int IntKind.u8 0, Value.int IntKind.u8 0, Value.int IntKind.u8 0, Value.int IntKind.u8 0, Value.int IntKind.u8 0, Value.int IntKind.u8 0, Value.int IntKind.u8 0, Value.int IntKind.u8 0, Value.int IntKind.u8 0, Value.int IntKind.u8 0, Value.int IntKind.u8 0, Value.int IntKind.u8 0, Value.int IntKind.u8 0, Value.int IntKind.u8 0, Value.int IntKind.u8 0, Value.int IntKind.u8 0, Value.int IntKind.u8 0, Value.int IntKind.u8 0, Value.int IntKind.u8 0, Value.int IntKind.u8 0, Value.int IntKind.u8 0, Value.int IntKind.u8 0, Value.int IntKind.u8 0, Value.int IntKind.u8 0, Value.int IntKind.u8 0, Value.int IntKind.u8 0, Value.int IntKind.u8 0] 24)).setRow w1.heap.size (cellsOf rt).toArray = W) := ⟨_, rfl⟩
    rw [HW2.out] at HR2 HB2 ⊢
    have HR2 : Hid _ := HR2
    have HB2' : Hid (Below w1.heap.size w1 w2) := HB2
    have HBW2 : Hid (Below W0.heap.size W0 w2) := HB1.out.trans (HB2.mono HB1.out.size)
    clear HB2 HW2 HN1
    go_wp2_with fail
    refine (HPA.out _ HBW2.out).mono ?_
    rintro e w3 ⟨vp, rfl, hp3, hb3⟩
    have HP3 : Hid (DgV w3 w2.heap.size vp [ab]) := hp3
    have HB3 : Hid (Below w2.heap.size w2 w3) := hb3
    have HBW3 : Hid (Below W0.heap.size W0 w3) := HBW2.out.trans (hb3.mono HBW2.out.size)
    clear hp3 hb3
    go_wp2_with fail
    refine (HRA.out _ HBW3.out).mono ?_
    rintro e w4 ⟨vq, rfl, hq4, hb4⟩
    have HB4 : Hid (Below w3.heap.size w3 w4) := hb4
    have HBW4 : Hid (Below W0.heap.size W0 w4) := HBW3.out.trans (hb4.mono HBW3.out.size)
    have HP4 : Hid (DgV w4 w2.heap.size vp [ab]) := HP3.out.below hb4 (Nat.le_refl _)
    have HQ4 : Hid (DgV w4 w3.heap.size vq [la, lc]) := hq4
    have HRL : Hid (w1.heap.size < w2.heap.size) := (Array.getElem?_eq_some_iff.1 HR2.out).1
    have HGW4 : Hid (w4.rangeAt g 0 (cellsOf ab)) := range_bel (range_of HG1.out) (HB2'.out.trans ((HB3.out.trans (HB4.out.mono HB3.out.size)).mono HB2'.out.size)) (Nat.le_refl _)
    have HRW4 : Hid (w4.rangeAt w1.heap.size 0 (cellsOf rt)) := range_bel (range_of HR2.out) (HB3.out.trans (HB4.out.mono HB3.out.size)) (Nat.le_refl _)
    clear hq4 hb4
    obtain ⟨aop, cp, rfl, hcp1, hcp2, hPV, hPP⟩ := HP4.out.path
    obtain ⟨gp, rfl, -, hpr⟩ := hPP (by simp)
    obtain ⟨aoq, cq, rfl, hcq1, hcq2, hQV, hQQ⟩ := HQ4.out.path
    obtain ⟨gq, rfl, -, hqr⟩ := hQQ (by simp)
    have HCPQ : Hid (cp ≤ 9223372036854775807 ∧ cq ≤ 9223372036854775807 ∧ 1 ≤ cp ∧ 2 ≤ cq) := ⟨hcp2, hcq2, hcp1, hcq1⟩
    have HPV : Hid (PathV w4 (some ⟨gp, 0, none⟩) [ab]) := hPV
    have HQV : Hid (PathV w4 (some ⟨gq, 0, none⟩) [la, lc]) := hQV
    have hp0 := hpr 0 ab rfl
    have hq0 := hqr 0 la rfl
    have hq1 := hqr 1 lc rfl
    rw [Nat.zero_mul] at hp0 hq0
    rw [Nat.one_mul] at hq1
    have HPR : Hid (w4.rangeAt gp 0 (cellsOf ab)) := hp0
    have HQR : Hid (w4.rangeAt gq 0 (cellsOf la) ∧ w4.rangeAt gq 32 (cellsOf lc)) := ⟨hq0, hq1⟩
    clear hp0 hq0 hq1
    clear hpr hqr hPV hQV hPP hQQ HP4 HQ4 HP3 hcp1 hcp2 hcq1 hcq2
    simp only [List.length_cons, List.length_nil, Nat.zero_add]
    go_upto_region 6 with fail
    have HIA : Hid ((Tryd.prog.info? 24).map (·.size) = some (cellsOf ab).length) := by show _ = _; rw [size24, cellsOf_length, HABL.out]
    have HIR : Hid ((Tryd.prog.info? 24).map (·.size) = some (cellsOf rt).length) := by show _ = _; rw [size24, cellsOf_length, HRTL.out]
    have HILA : Hid ((Tryd.prog.info? 24).map (·.size) = some (cellsOf la).length) := by show _ = _; rw [size24, cellsOf_length, HLAL.out]
    have HILC : Hid ((Tryd.prog.info? 24).map (·.size) = some (cellsOf lc).length) := by show _ = _; rw [size24, cellsOf_length, HLCL.out]
    have HS4 : Hid (∀ W, Below w4.heap.size w4 W → (W.cell? ⟨w.heap.size + 3, 0, none⟩ = some (.slice (some ⟨w.heap.size, 0, none⟩) 1 1) ∧ W.cell? ⟨w.heap.size + 3, 1, none⟩ = some (.slice (some ⟨w.heap.size + 1, 0, none⟩) 1 1) ∧ W.cell? ⟨w.heap.size + 3, 2, none⟩ = some (.slice (some ⟨w.heap.size + 1 + 1, 0, none⟩) 1 1)) ∧ W.rangeAt g 0 (cellsOf ab) ∧ W.rangeAt w1.heap.size 0 (cellsOf rt) ∧ W.rangeAt gp 0 (cellsOf ab) ∧ W.rangeAt gq 0 (cellsOf la) ∧ W.rangeAt gq 32 (cellsOf lc)) := fun W hW =>
      ⟨HS.out W (HBW4.out.trans (hW.mono HBW4.out.size)), range_bel HGW4.out hW (Nat.le_refl _), range_bel HRW4.out hW (Nat.le_refl _), range_bel HPR.out hW (Nat.le_refl _), range_bel HQR.out.1 hW (Nat.le_refl _), range_bel HQR.out.2 hW (Nat.le_refl _)⟩
    have heqR := eq_same rt HRTL.out
    have hg := guard24
    go_cut [62] (fun s62 wx => s62 = .bool false ∧ Hid (Below w4.heap.size w4 wx))
    case first =>
      refine wp_region_held_drew (S := fun W => (W.cell? ⟨w.heap.size + 3, 0, none⟩ = some (.slice (some ⟨w.heap.size, 0, none⟩) 1 1) ∧ W.cell? ⟨w.heap.size + 3, 1, none⟩ = some (.slice (some ⟨w.heap.size + 1, 0, none⟩) 1 1) ∧ W.cell? ⟨w.heap.size + 3, 2, none⟩ = some (.slice (some ⟨w.heap.size + 1 + 1, 0, none⟩) 1 1)) ∧ W.rangeAt g 0 (cellsOf ab) ∧ W.rangeAt w1.heap.size 0 (cellsOf rt) ∧ W.rangeAt gp 0 (cellsOf ab) ∧ W.rangeAt gq 0 (cellsOf la) ∧ W.rangeAt gq 32 (cellsOf lc)) (by kernel_rfl) (HS4.out _ (Below.drew (Below.refl _ _))) (fun hS => ?_)
      refine wpAnyH_take (i := 0) (v := ?_) rfl (by kernel_rfl) (by kernel_rfl) (by kernel_rfl) (fun _ _ _ h => h) (Or.inl ⟨by rfl, ?_⟩) (by assumption) ?_
      rotate_left
      · (intro w hSw; (try dsimp only at hSw); go_simp; try with_reducible rfl)
      simp only [Act.put, List.getElem_toArray, List.getElem_cons_zero, List.setIfInBounds_toArray, List.set_cons_zero, List.set_cons_succ]
      refine wpAnyH_take (i := 1) (v := ?_) rfl (by kernel_rfl) (by kernel_rfl) (by kernel_rfl) (fun _ _ _ h => h) (Or.inl ⟨by rfl, ?_⟩) (by assumption) ?_
      rotate_left
      · (intro w hSw; (try dsimp only at hSw); go_simp; try with_reducible rfl)
      simp only [Act.put, List.getElem_toArray, List.getElem_cons_zero, List.getElem_cons_succ, List.setIfInBounds_toArray, List.set_cons_zero, List.set_cons_succ]
      refine wpAnyH_take (i := 2) (v := ?_) rfl (by kernel_rfl) (by kernel_rfl) (by kernel_rfl) (fun _ _ _ h => h) (Or.inl ⟨by rfl, ?_⟩) (by assumption) ?_
      rotate_left
      · (intro w hSw; (try dsimp only at hSw); go_simp; try with_reducible rfl)
      simp only [Act.put, List.getElem_toArray, List.getElem_cons_zero, List.getElem_cons_succ, List.setIfInBounds_toArray, List.set_cons_zero, List.set_cons_succ]
      refine wpAnyH_take (i := 3) (v := ?_) rfl (by kernel_rfl) (by kernel_rfl) (by kernel_rfl) (fun _ _ _ h => h) (Or.inl ⟨by rfl, ?_⟩) (by assumption) ?_
      rotate_left
      · (intro w hSw; (try dsimp only at hSw); go_simp; try with_reducible rfl)
      simp only [Act.put, List.getElem_toArray, List.getElem_cons_zero, List.getElem_cons_succ, List.setIfInBounds_toArray, List.set_cons_zero, List.set_cons_succ]
      refine wpAnyH_take (i := 4) (v := ?_) rfl (by kernel_rfl) (by kernel_rfl) (by kernel_rfl) (fun _ _ _ h => h) (Or.inl ⟨by rfl, ?_⟩) (by assumption) ?_
      rotate_left
      · (intro w hSw; (try dsimp only at hSw); go_simp; try with_reducible rfl)
      simp only [Act.put, List.getElem_toArray, List.getElem_cons_zero, List.getElem_cons_succ, List.setIfInBounds_toArray, List.set_cons_zero, List.set_cons_succ]
      refine wpAnyH_take (i := 5) (v := ?_) rfl (by kernel_rfl) (by kernel_rfl) (by kernel_rfl) (fun _ _ _ h => h) (Or.inl ⟨by rfl, ?_⟩) (by assumption) ?_
      rotate_left
      · (intro w hSw; (try dsimp only at hSw); go_simp; try with_reducible rfl)
      simp only [Act.put, List.getElem_toArray, List.getElem_cons_zero, List.getElem_cons_succ, List.setIfInBounds_toArray, List.set_cons_zero, List.set_cons_succ]
      refine wpAnyH_take (i := 6) (v := ?_) rfl (by kernel_rfl) (by kernel_rfl) (by kernel_rfl) (fun _ _ _ h => h) (Or.inl ⟨by rfl, ?_⟩) (by assumption) ?_
      rotate_left
      · (intro w hSw; (try dsimp only at hSw); go_simp; try with_reducible rfl)
      simp only [Act.put, List.getElem_toArray, List.getElem_cons_zero, List.getElem_cons_succ, List.setIfInBounds_toArray, List.set_cons_zero, List.set_cons_succ]
      refine wpAnyH_take (i := 7) (v := ?_) rfl (by kernel_rfl) (by kernel_rfl) (by kernel_rfl) (fun _ _ _ h => h) (Or.inl ⟨by rfl, ?_⟩) (by assumption) ?_
      rotate_left
      · (intro w hSw; (try dsimp only at hSw); go_simp; try with_reducible rfl)
      simp only [Act.put, List.getElem_toArray, List.getElem_cons_zero, List.getElem_cons_succ, List.setIfInBounds_toArray, List.set_cons_zero, List.set_cons_succ]
      refine wpAnyH_take (i := 8) (v := ?_) rfl (by kernel_rfl) (by kernel_rfl) (by kernel_rfl) (fun _ _ _ h => h) (Or.inl ⟨by rfl, ?_⟩) (by assumption) ?_
      rotate_left
      · (intro w hSw; (try dsimp only at hSw); go_simp; try with_reducible rfl)
      simp only [Act.put, List.getElem_toArray, List.getElem_cons_zero, List.getElem_cons_succ, List.setIfInBounds_toArray, List.set_cons_zero, List.set_cons_succ]
      refine wpAnyH_take (i := 9) (v := ?_) rfl (by kernel_rfl) (by kernel_rfl) (by kernel_rfl) (fun _ _ _ h => h) (Or.inl ⟨by rfl, ?_⟩) (by assumption) ?_
      rotate_left
      · (intro w hSw; (try dsimp only at hSw); go_simp; try with_reducible rfl)
      simp only [Act.put, List.getElem_toArray, List.getElem_cons_zero, List.getElem_cons_succ, List.setIfInBounds_toArray, List.set_cons_zero, List.set_cons_succ]
      refine wpAnyH_take (i := 10) (v := ?_) rfl (by kernel_rfl) (by kernel_rfl) (by kernel_rfl) (fun _ _ _ h => h) (Or.inl ⟨by rfl, ?_⟩) (by assumption) ?_
      rotate_left
      · (intro w hSw; (try dsimp only at hSw); go_simp; try with_reducible rfl)
      simp only [Act.put, List.getElem_toArray, List.getElem_cons_zero, List.getElem_cons_succ, List.setIfInBounds_toArray, List.set_cons_zero, List.set_cons_succ]
      refine wpAnyH_take (i := 11) (v := ?_) rfl (by kernel_rfl) (by kernel_rfl) (by kernel_rfl) (fun _ _ _ h => h) (Or.inl ⟨by rfl, ?_⟩) (by assumption) ?_
      rotate_left
      · (intro w hSw; (try dsimp only at hSw); go_simp; try with_reducible rfl)
      simp only [Act.put, List.getElem_toArray, List.getElem_cons_zero, List.getElem_cons_succ, List.setIfInBounds_toArray, List.set_cons_zero, List.set_cons_succ]
      refine wpAnyH_take (i := 12) (v := ?_) rfl (by kernel_rfl) (by kernel_rfl) (by kernel_rfl) (fun _ _ _ h => h) (Or.inl ⟨by rfl, ?_⟩) (by assumption) ?_
      rotate_left
      · (intro w hSw; (try dsimp only at hSw); go_simp; try with_reducible rfl)
      simp only [Act.put, List.getElem_toArray, List.getElem_cons_zero, List.getElem_cons_succ, List.setIfInBounds_toArray, List.set_cons_zero, List.set_cons_succ]
      refine wpAnyH_take (i := 13) (v := ?_) rfl (by kernel_rfl) (by kernel_rfl) (by kernel_rfl) (fun _ _ _ h => h) (Or.inl ⟨by rfl, ?_⟩) (by assumption) ?_
      rotate_left
      · (intro w hSw; (try dsimp only at hSw); go_simp; try with_reducible rfl)
      simp only [Act.put, List.getElem_toArray, List.getElem_cons_zero, List.getElem_cons_succ, List.setIfInBounds_toArray, List.set_cons_zero, List.set_cons_succ]
      refine wpAnyH_take (i := 14) (v := ?_) rfl (by kernel_rfl) (by kernel_rfl) (by kernel_rfl) (fun _ _ _ h => h) (Or.inl ⟨by rfl, ?_⟩) (by assumption) ?_
      rotate_left
      · (intro w hSw; (try dsimp only at hSw); go_simp; try with_reducible rfl)
      simp only [Act.put, List.getElem_toArray, List.getElem_cons_zero, List.getElem_cons_succ, List.setIfInBounds_toArray, List.set_cons_zero, List.set_cons_succ]
      refine wpAnyH_take (i := 15) (v := ?_) rfl (by kernel_rfl) (by kernel_rfl) (by kernel_rfl) (fun _ _ _ h => h) (Or.inl ⟨by rfl, ?_⟩) (by assumption) ?_
      rotate_left
      · (intro w hSw; (try dsimp only at hSw); go_simp; try with_reducible rfl)
      simp only [Act.put, List.getElem_toArray, List.getElem_cons_zero, List.getElem_cons_succ, List.setIfInBounds_toArray, List.set_cons_zero, List.set_cons_succ]
      refine wpAnyH_take (i := 16) (v := ?_) rfl (by kernel_rfl) (by kernel_rfl) (by kernel_rfl) (fun _ _ _ h => h) (Or.inl ⟨by rfl, ?_⟩) (by assumption) ?_
      rotate_left
      · (intro w hSw; (try dsimp only at hSw); go_simp; try with_reducible rfl)
      simp only [Act.put, List.getElem_toArray, List.getElem_cons_zero, List.getElem_cons_succ, List.setIfInBounds_toArray, List.set_cons_zero, List.set_cons_succ]
      refine wpAnyH_take (i := 17) (v := .agg (cellsOf rt).toArray) rfl (by kernel_rfl) (by kernel_rfl) (by kernel_rfl) (fun _ _ _ h => h) (yieldsIf_load_mid (by rfl) 24 (.tmp 3) rfl w1.heap.size 0 rfl (cellsOf rt) _ (fun _ h => h.2.2.1) Tryd.underlying24 rfl HIR.out) (by assumption) ?_
      simp only [Act.put, List.getElem_toArray, List.getElem_cons_zero, List.getElem_cons_succ, List.setIfInBounds_toArray, List.set_cons_zero, List.set_cons_succ]
      refine wpAnyH_take (i := 18) (v := .agg (cellsOf ab).toArray) rfl (by kernel_rfl) (by kernel_rfl) (by kernel_rfl) (fun _ _ _ h => h) (yieldsIf_load_mid (by rfl) 24 (.tmp 2) rfl g 0 rfl (cellsOf ab) _ (fun _ h => h.2.1) Tryd.underlying24 rfl HIA.out) (by assumption) ?_
      simp only [Act.put, List.getElem_toArray, List.getElem_cons_zero, List.getElem_cons_succ, List.setIfInBounds_toArray, List.set_cons_zero, List.set_cons_succ]
      refine wpAnyH_take (i := 19) (v := ?_) rfl (by kernel_rfl) (by kernel_rfl) (by kernel_rfl) (fun _ _ _ h => h) (Or.inl ⟨by rfl, ?_⟩) (by assumption) ?_
      rotate_left
      · (intro w hSw; (try dsimp only at hSw); go_simp; try with_reducible rfl)
      simp only [Act.put, List.getElem_toArray, List.getElem_cons_zero, List.getElem_cons_succ, List.setIfInBounds_toArray, List.set_cons_zero, List.set_cons_succ]
      refine wpAnyH_take (i := 20) (v := ?_) rfl (by kernel_rfl) (by kernel_rfl) (by kernel_rfl) (fun _ _ _ h => h) (Or.inl ⟨by rfl, ?_⟩) (by assumption) ?_
      rotate_left
      · (intro w hSw; (try dsimp only at hSw); go_simp; try with_reducible rfl)
      simp only [Act.put, List.getElem_toArray, List.getElem_cons_zero, List.getElem_cons_succ, List.setIfInBounds_toArray, List.set_cons_zero, List.set_cons_succ]
      refine wpAnyH_take (i := 21) (v := ?_) rfl (by kernel_rfl) (by kernel_rfl) (by kernel_rfl) (fun _ _ _ h => h) (Or.inl ⟨by rfl, ?_⟩) (by assumption) ?_
      rotate_left
      · (intro w hSw; (try dsimp only at hSw); go_simp; try with_reducible rfl)
      simp only [Act.put, List.getElem_toArray, List.getElem_cons_zero, List.getElem_cons_succ, List.setIfInBounds_toArray, List.set_cons_zero, List.set_cons_succ]
      refine wpAnyH_ready (rs := [22]) (by kernel_rfl) (by simp) ?_
      refine AllReadyH.cons rfl (fun K hK => ?_) AllReadyH.nil
      go_simp
      refine (HLC.out _ (HBW4.out.trans ((Below.drew (Below.refl _ _)).mono HBW4.out.size))).mono ?_
      rintro e wA ⟨rfl, hA⟩
      have HC1 : Hid (Below w4.heap.size w4 wA) := (Below.drew (Below.refl w4.heap.size w4)).trans (hA.mono (Nat.le_refl _))
      unfold dv
      go_wp2_with fail
      refine hK.out _ _ (HS4.out _ HC1.out) (fun hHeld2 => ?_)
      clear hK K
      refine wpAnyH_ready (rs := [23]) (by kernel_rfl) (by simp) ?_
      refine AllReadyH.cons rfl (fun K hK => ?_) AllReadyH.nil
      go_simp
      refine (HNR.out _ (HBW4.out.trans (HC1.out.mono HBW4.out.size))).mono ?_
      rintro e wB ⟨rfl, hB⟩
      have HC2 : Hid (Below w4.heap.size w4 wB) := HC1.out.trans (hB.mono HC1.out.size)
      unfold dv
      go_wp2_with fail
      refine hK.out _ _ (HS4.out _ HC2.out) (fun hHeld2 => ?_)
      clear hK K
      clear hA hB
      refine wpAnyH_take (i := 24) (v := ?_) rfl (by kernel_rfl) (by kernel_rfl) (by kernel_rfl) (fun _ _ _ h => h) (Or.inl ⟨by rfl, ?_⟩) (by assumption) ?_
      rotate_left
      · (intro w hSw; (try dsimp only at hSw); go_simp; try with_reducible rfl)
      simp only [Act.put, List.getElem_toArray, List.getElem_cons_zero, List.getElem_cons_succ, List.setIfInBounds_toArray, List.set_cons_zero, List.set_cons_succ]
      refine wpAnyH_take (i := 25) (v := ?_) rfl (by kernel_rfl) (by kernel_rfl) (by kernel_rfl) (fun _ _ _ h => h) (Or.inl ⟨by rfl, ?_⟩) (by assumption) ?_
      rotate_left
      · (intro w hSw; (try dsimp only at hSw); go_simp; try with_reducible rfl)
      simp only [Act.put, List.getElem_toArray, List.getElem_cons_zero, List.getElem_cons_succ, List.setIfInBounds_toArray, List.set_cons_zero, List.set_cons_succ]
      refine wpAnyH_done (by kernel_rfl) ?_ _
      clear hS hHeld2
      go_wp2_with fail
      go_meet
      exact ⟨rfl, HC2⟩
    case rest =>
      obtain ⟨rfl, HBX⟩ := hcut
      have HBXW : Hid (Below W0.heap.size W0 wc) := HBW4.out.trans (HBX.out.mono HBW4.out.size)
      obtain ⟨dn, HDN⟩ : ∃ d, Hid (shaB [] = d) := ⟨_, rfl⟩
      have HDNL : Hid (dn.length = 32) := by show _ = _; rw [← HDN.out]; exact shaB_length _
      have HRN : Hid (∀ W, Below W0.heap.size W0 W → Calls Tryd.prog 25 #[.slice none 0 0] W fun e w' => e = .returned (dv dn) ∧ Below W.heap.size W w') := fun W hW => by
        have h := rootN_any none 0 0 [] W (nil_leaves W) (by omega) (HKB.out W hW).1 (HKB.out W hW).2
        rw [show rootD 256 (bytesL []) = dn from (keptZ_all []).trans HDN.out] at h; exact h
      have HON : Hid (∀ W, Below W0.heap.size W0 W → Calls Tryd.prog 56 #[.slice none 0 0] W fun e w' => e = .returned (dv dn) ∧ Below W.heap.size W w') := fun W hW => by
        have h := of_cap none 0 0 [] W (bytes_nil W) (Nat.le_refl _) (by omega) (by omega) (HKB.out W hW).1 (HKB.out W hW).2
        rw [HDN.out] at h; exact h
      have HL0 : Hid (∀ W g, Below W0.heap.size W0 W → W.heap[g]? = some (.cells #[.int .u8 97] 5 (1, 2)) → Calls Tryd.prog 31 #[.slice (some ⟨g, 0, none⟩) 1 1] W fun e w' => e = .returned (dv la) ∧ Below W.heap.size W w') := fun W g hW hg => by
        have h := leafN_any _ 1 1 [97] W (one_bytes (a := 97) hg) (fun h => by cases h) (by omega) (HKB.out W hW).1 (HKB.out W hW).2
        rw [HLAD.out] at h; exact h
      have HO2 : Hid (∀ W g, Below W0.heap.size W0 W → W.heap[g]? = some (.cells #[.int .u8 0, .int .u8 97] 5 (2, 3)) → Calls Tryd.prog 56 #[.slice (some ⟨g, 0, none⟩) 2 2] W fun e w' => e = .returned (dv la) ∧ Below W.heap.size W w') := fun W g hW hg => by
        have h := of_cap _ 2 2 [0, 97] W (block_bytes (bs := [0, 97]) hg) (Nat.le_refl _) (by omega) (by omega) (HKB.out W hW).1 (HKB.out W hW).2
        rw [show shaB [0, 97] = la from (keptZ_all [0, 97]).symm.trans HLAD.out] at h; exact h
      have kc := fun (w : World) (C : Array Value) (n c : Nat) => Lib.run_convert_bytes_const (P := Tryd.prog) w 36 5 C n c Tryd.underlying36 Tryd.underlying5
      have heqN := eq_same dn HDNL.out
      have heqA := eq_same la HLAL.out
      have hg := guard24
      go_wp2_with fail
      refine (HRN.out _ HBXW.out).mono ?_
      rintro e w5 ⟨rfl, hb5⟩
      have HB5 : Hid (Below W0.heap.size W0 w5) := HBXW.out.trans (hb5.mono HBXW.out.size)
      have HX5 : Hid (Below w4.heap.size w4 w5) := HBX.out.trans (hb5.mono HBX.out.size)
      clear hb5
      go_wp2_with fail
      refine (HON.out _ HB5.out).mono ?_
      rintro e w6 ⟨rfl, hb6⟩
      have HB6 : Hid (Below W0.heap.size W0 w6) := HB5.out.trans (hb6.mono HB5.out.size)
      have HX6 : Hid (Below w4.heap.size w4 w6) := HX5.out.trans (hb6.mono HX5.out.size)
      clear hb6
      unfold dv
      go_wp2_with fail
      refine (HL0.out _ w6.heap.size (HB6.out.trans ((bel_alloc _ _).mono HB6.out.size)) (heap_alloc_new _ _)).mono ?_
      rintro e w7 ⟨rfl, hb7⟩
      have HB7 : Hid (Below W0.heap.size W0 w7) := HB6.out.trans (((bel_alloc w6 _).trans (hb7.mono (by simp))).mono HB6.out.size)
      have HX7 : Hid (Below w4.heap.size w4 w7) := HX6.out.trans (((bel_alloc w6 _).trans (hb7.mono (by simp))).mono HX6.out.size)
      clear hb7
      go_wp2_with fail
      refine (HO2.out _ w7.heap.size (HB7.out.trans ((bel_alloc _ _).mono HB7.out.size)) (heap_alloc_new _ _)).mono ?_
      rintro e w8 ⟨rfl, hb8⟩
      have HB8 : Hid (Below W0.heap.size W0 w8) := HB7.out.trans (((bel_alloc w7 _).trans (hb8.mono (by simp))).mono HB7.out.size)
      have HX8 : Hid (Below w4.heap.size w4 w8) := HX7.out.trans (((bel_alloc w7 _).trans (hb8.mono (by simp))).mono HX7.out.size)
      clear hb8 kc HRN HON HL0 HO2 HPA HRA HRO HLB HNO HNR
      unfold dv
      go_upto_region 9 with fail
      have heqB := eq_same ab HABL.out
      have heqC := eq_same lc HLCL.out
      have HS8 : Hid (∀ W, Below w8.heap.size w8 W → Below w4.heap.size w4 W) := fun W hW => HX8.out.trans (hW.mono HX8.out.size)
      have HW8 : Hid (∀ W, Below w8.heap.size w8 W → Below W0.heap.size W0 W) := fun W hW => HB8.out.trans (hW.mono HB8.out.size)
      have HCK1 : Hid (∀ W, Below w8.heap.size w8 W → Calls Tryd.prog 41 #[dv rt, .int .i64 3, .int .i64 2, .slice (some ⟨w.heap.size + 1 + 1, 0, none⟩) 1 1, .slice (some ⟨gp, 0, none⟩) 1 cp] W fun e w' => e = .returned (.bool true) ∧ Below W.heap.size W w') := fun W hW => by
        refine checkN_of rt 3 2 _ _ true W HRTL.out (fun W2 hW2 => ?_)
        have hW4 : Below w4.heap.size w4 W2 := (HS8.out W hW).trans (hW2.mono (HS8.out W hW).size)
        have hW0 : Below W0.heap.size W0 W2 := (HW8.out W hW).trans (hW2.mono (HW8.out W hW).size)
        have h := check_some 256 rt 3 2 _ 1 1 [99] (some ⟨gp, 0, none⟩) 1 cp [ab] W2 HRTL.out (by omega) (by omega) rfl (by rw [up32]; rfl) HCPQ.out.2.2.1 HCPQ.out.1 (HPV.out.below hW4 (Nat.le_refl _)) (bytes_kept (one_bytes (a := 99) HFH.out.2.2.1) hW0 (Nat.le_refl _)) (fun h => by cases h) (by omega) (HKB.out W2 hW0).1 (HKB.out W2 hW0).2 z256
        rw [climb3, HLCD.out, HRTD.out, beq_self_eq_true] at h
        exact h
      have HCK2 : Hid (∀ W, Below w8.heap.size w8 W → Calls Tryd.prog 41 #[dv rt, .int .i64 3, .int .i64 2, .slice (some ⟨w.heap.size + 1 + 1, 0, none⟩) 1 1, .slice none 0 0] W fun e w' => e = .returned (.bool false) ∧ Below W.heap.size W w') := fun W hW => by
        refine checkN_of rt 3 2 _ _ false W HRTL.out (fun W2 hW2 => ?_)
        exact check_len 256 rt 3 2 _ none 0 0 W2 (by omega) (by omega) (by rw [up32]; simp)
      have HCR1 : Hid (∀ W, Below w8.heap.size w8 W → Calls Tryd.prog 44 #[dv rt, .int .i64 3, .int .i64 1, .slice (some ⟨w.heap.size + 3, 1, none⟩) 1 2, .slice (some ⟨gq, 0, none⟩) 2 cq] W fun e w' => e = .returned (.bool true) ∧ Below W.heap.size W w') := fun W hW => by
        refine crangeN_of rt 3 1 _ _ true W HRTL.out (fun W2 hW2 => ?_)
        have hW4 : Below w4.heap.size w4 W2 := (HS8.out W hW).trans (hW2.mono (HS8.out W hW).size)
        have hW0 : Below W0.heap.size W0 W2 := (HW8.out W hW).trans (hW2.mono (HW8.out W hW).size)
        have hL := (HLV.out.below hW0 (Nat.le_refl _)).part 1 2 (by omega) (by omega)
        have h := crange_some 256 rt 3 1 (w.heap.size + 3) 1 1 2 [⟨some ⟨w.heap.size + 1, 0, none⟩, 1, 1, [98]⟩] (some ⟨gq, 0, none⟩) 2 cq [la, lc] W2 HRTL.out (by omega) (by omega) (by omega) rfl (by rw [out312]; rfl) HCPQ.out.2.2.2 (HQV.out.below hW4 (Nat.le_refl _)) hL (by omega) (HKB.out W2 hW0).1 (HKB.out W2 hW0).2 z256
        rw [show (1 + 1 : Nat) = 2 from rfl, fill3] at h
        simp only [HLBD.out, HABD.out, HRTD.out, beq_self_eq_true] at h
        exact h
      have HCR2 : Hid (∀ W, Below w8.heap.size w8 W → Calls Tryd.prog 44 #[dv rt, .int .i64 3, .int .i64 1, .slice none 0 0, .slice (some ⟨gq, 0, none⟩) 2 cq] W fun e w' => e = .returned (.bool false) ∧ Below W.heap.size W w') := fun W hW => by
        refine crangeN_of rt 3 1 _ _ false W HRTL.out (fun W2 hW2 => ?_)
        exact crange_wrong 256 rt 3 1 none 0 0 _ W2 (by omega) (by omega)
      unfold dv at HCK1 HCK2 HCR1 HCR2
      have hcq : (2 : Nat) ≤ cq := HCPQ.out.2.2.2
      refine wp_region_held_drew (S := fun W => (W.cell? ⟨w.heap.size + 3, 0, none⟩ = some (.slice (some ⟨w.heap.size, 0, none⟩) 1 1) ∧ W.cell? ⟨w.heap.size + 3, 1, none⟩ = some (.slice (some ⟨w.heap.size + 1, 0, none⟩) 1 1) ∧ W.cell? ⟨w.heap.size + 3, 2, none⟩ = some (.slice (some ⟨w.heap.size + 1 + 1, 0, none⟩) 1 1)) ∧ W.rangeAt g 0 (cellsOf ab) ∧ W.rangeAt w1.heap.size 0 (cellsOf rt) ∧ W.rangeAt gp 0 (cellsOf ab) ∧ W.rangeAt gq 0 (cellsOf la) ∧ W.rangeAt gq 32 (cellsOf lc)) (by kernel_rfl) (HS4.out _ (HS8.out _ (Below.drew (Below.refl _ _)))) (fun hS => ?_)
      refine wpAnyH_take (i := 0) (v := ?_) rfl (by kernel_rfl) (by kernel_rfl) (by kernel_rfl) (fun _ _ _ h => h) (Or.inl ⟨by rfl, ?_⟩) (by assumption) ?_
      rotate_left
      · (intro w hSw; (try dsimp only at hSw); go_simp; try with_reducible rfl)
      simp only [Act.put, List.getElem_toArray, List.getElem_cons_zero, List.setIfInBounds_toArray, List.set_cons_zero, List.set_cons_succ]
      refine wpAnyH_take (i := 1) (v := ?_) rfl (by kernel_rfl) (by kernel_rfl) (by kernel_rfl) (fun _ _ _ h => h) (Or.inl ⟨by rfl, ?_⟩) (by assumption) ?_
      rotate_left
      · (intro w hSw; (try dsimp only at hSw); go_simp; try with_reducible rfl)
      simp only [Act.put, List.getElem_toArray, List.getElem_cons_zero, List.getElem_cons_succ, List.setIfInBounds_toArray, List.set_cons_zero, List.set_cons_succ]
      refine wpAnyH_take (i := 2) (v := ?_) rfl (by kernel_rfl) (by kernel_rfl) (by kernel_rfl) (fun _ _ _ h => h) (Or.inl ⟨by rfl, ?_⟩) (by assumption) ?_
      rotate_left
      · (intro w hSw; (try dsimp only at hSw); go_simp; try with_reducible rfl)
      simp only [Act.put, List.getElem_toArray, List.getElem_cons_zero, List.getElem_cons_succ, List.setIfInBounds_toArray, List.set_cons_zero, List.set_cons_succ]
      refine wpAnyH_take (i := 3) (v := ?_) rfl (by kernel_rfl) (by kernel_rfl) (by kernel_rfl) (fun _ _ _ h => h) (Or.inl ⟨by rfl, ?_⟩) (by assumption) ?_
      rotate_left
      · (intro w hSw; (try dsimp only at hSw); go_simp; try with_reducible rfl)
      simp only [Act.put, List.getElem_toArray, List.getElem_cons_zero, List.getElem_cons_succ, List.setIfInBounds_toArray, List.set_cons_zero, List.set_cons_succ]
      refine wpAnyH_take (i := 4) (v := .agg (cellsOf ab).toArray) rfl (by kernel_rfl) (by kernel_rfl) (by kernel_rfl) (fun _ _ _ h => h) (yieldsIf_load_mid (by rfl) 24 (.tmp 78) rfl gp 0 rfl (cellsOf ab) _ (fun _ h => h.2.2.2.1) Tryd.underlying24 rfl HIA.out) (by assumption) ?_
      simp only [Act.put, List.getElem_toArray, List.getElem_cons_zero, List.getElem_cons_succ, List.setIfInBounds_toArray, List.set_cons_zero, List.set_cons_succ]
      refine wpAnyH_take (i := 5) (v := .agg (cellsOf ab).toArray) rfl (by kernel_rfl) (by kernel_rfl) (by kernel_rfl) (fun _ _ _ h => h) (yieldsIf_load_mid (by rfl) 24 (.tmp 2) rfl g 0 rfl (cellsOf ab) _ (fun _ h => h.2.1) Tryd.underlying24 rfl HIA.out) (by assumption) ?_
      simp only [Act.put, List.getElem_toArray, List.getElem_cons_zero, List.getElem_cons_succ, List.setIfInBounds_toArray, List.set_cons_zero, List.set_cons_succ]
      refine wpAnyH_take (i := 6) (v := ?_) rfl (by kernel_rfl) (by kernel_rfl) (by kernel_rfl) (fun _ _ _ h => h) (Or.inl ⟨by rfl, ?_⟩) (by assumption) ?_
      rotate_left
      · (intro w hSw; (try dsimp only at hSw); go_simp; try with_reducible rfl)
      simp only [Act.put, List.getElem_toArray, List.getElem_cons_zero, List.getElem_cons_succ, List.setIfInBounds_toArray, List.set_cons_zero, List.set_cons_succ]
      refine wpAnyH_take (i := 7) (v := ?_) rfl (by kernel_rfl) (by kernel_rfl) (by kernel_rfl) (fun _ _ _ h => h) (Or.inl ⟨by rfl, ?_⟩) (by assumption) ?_
      rotate_left
      · (intro w hSw; (try dsimp only at hSw); go_simp; try with_reducible rfl)
      simp only [Act.put, List.getElem_toArray, List.getElem_cons_zero, List.getElem_cons_succ, List.setIfInBounds_toArray, List.set_cons_zero, List.set_cons_succ]
      refine wpAnyH_take (i := 8) (v := ?_) rfl (by kernel_rfl) (by kernel_rfl) (by kernel_rfl) (fun _ _ _ h => h) (Or.inl ⟨by rfl, ?_⟩) (by assumption) ?_
      rotate_left
      · (intro w hSw; (try dsimp only at hSw); go_simp; try with_reducible rfl)
      simp only [Act.put, List.getElem_toArray, List.getElem_cons_zero, List.getElem_cons_succ, List.setIfInBounds_toArray, List.set_cons_zero, List.set_cons_succ]
      refine wpAnyH_take (i := 9) (v := ?_) rfl (by kernel_rfl) (by kernel_rfl) (by kernel_rfl) (fun _ _ _ h => h) (Or.inl ⟨by rfl, ?_⟩) (by assumption) ?_
      rotate_left
      · (intro w hSw; (try dsimp only at hSw); go_simp; try with_reducible rfl)
      simp only [Act.put, List.getElem_toArray, List.getElem_cons_zero, List.getElem_cons_succ, List.setIfInBounds_toArray, List.set_cons_zero, List.set_cons_succ]
      refine wpAnyH_take (i := 10) (v := ?_) rfl (by kernel_rfl) (by kernel_rfl) (by kernel_rfl) (fun _ _ _ h => h) (Or.inl ⟨by rfl, ?_⟩) (by assumption) ?_
      rotate_left
      · (intro w hSw; (try dsimp only at hSw); go_simp; try with_reducible rfl)
      simp only [Act.put, List.getElem_toArray, List.getElem_cons_zero, List.getElem_cons_succ, List.setIfInBounds_toArray, List.set_cons_zero, List.set_cons_succ]
      refine wpAnyH_take (i := 11) (v := .agg (cellsOf la).toArray) rfl (by kernel_rfl) (by kernel_rfl) (by kernel_rfl) (fun _ _ _ h => h) (yieldsIf_load_mid (by rfl) 24 (.tmp 85) rfl gq 0 rfl (cellsOf la) _ (fun _ h => h.2.2.2.2.1) Tryd.underlying24 rfl HILA.out) (by assumption) ?_
      simp only [Act.put, List.getElem_toArray, List.getElem_cons_zero, List.getElem_cons_succ, List.setIfInBounds_toArray, List.set_cons_zero, List.set_cons_succ]
      refine wpAnyH_take (i := 12) (v := ?_) rfl (by kernel_rfl) (by kernel_rfl) (by kernel_rfl) (fun _ _ _ h => h) (Or.inl ⟨by rfl, ?_⟩) (by assumption) ?_
      rotate_left
      · (intro w hSw; (try dsimp only at hSw); go_simp; try with_reducible rfl)
      simp only [Act.put, List.getElem_toArray, List.getElem_cons_zero, List.getElem_cons_succ, List.setIfInBounds_toArray, List.set_cons_zero, List.set_cons_succ]
      refine wpAnyH_take (i := 13) (v := ?_) rfl (by kernel_rfl) (by kernel_rfl) (by kernel_rfl) (fun _ _ _ h => h) (Or.inl ⟨by rfl, ?_⟩) (by assumption) ?_
      rotate_left
      · (intro w hSw; (try dsimp only at hSw); go_simp; try with_reducible rfl)
      simp only [Act.put, List.getElem_toArray, List.getElem_cons_zero, List.getElem_cons_succ, List.setIfInBounds_toArray, List.set_cons_zero, List.set_cons_succ]
      refine wpAnyH_take (i := 14) (v := ?_) rfl (by kernel_rfl) (by kernel_rfl) (by kernel_rfl) (fun _ _ _ h => h) (Or.inl ⟨by rfl, ?_⟩) (by assumption) ?_
      rotate_left
      · (intro w hSw; (try dsimp only at hSw); go_simp; try with_reducible rfl)
      simp only [Act.put, List.getElem_toArray, List.getElem_cons_zero, List.getElem_cons_succ, List.setIfInBounds_toArray, List.set_cons_zero, List.set_cons_succ]
      refine wpAnyH_ready (rs := [15]) (by kernel_rfl) (by simp) ?_
      refine AllReadyH.cons rfl (fun K hK => ?_) AllReadyH.nil
      go_simp
      refine (HLA.out _ (HW8.out _ (Below.drew (Below.refl w8.heap.size w8)))).mono ?_
      rintro e y1 ⟨rfl, hy1⟩
      have HC1 : Hid (Below w8.heap.size w8 y1) := (Below.drew (Below.refl w8.heap.size w8)).trans (hy1.mono (Nat.le_refl _))
      try unfold dv
      go_wp2_with fail
      refine hK.out _ _ (HS4.out _ (HS8.out _ HC1.out)) (fun hHeld2 => ?_)
      clear hK K
      refine wpAnyH_take (i := 16) (v := ?_) rfl (by kernel_rfl) (by kernel_rfl) (by kernel_rfl) (fun _ _ _ h => h) (Or.inl ⟨by rfl, ?_⟩) (by assumption) ?_
      rotate_left
      · (intro w hSw; (try dsimp only at hSw); go_simp; try with_reducible rfl)
      simp only [Act.put, List.getElem_toArray, List.getElem_cons_zero, List.getElem_cons_succ, List.setIfInBounds_toArray, List.set_cons_zero, List.set_cons_succ]
      refine wpAnyH_take (i := 17) (v := ?_) rfl (by kernel_rfl) (by kernel_rfl) (by kernel_rfl) (fun _ _ _ h => h) (Or.inl ⟨by rfl, ?_⟩) (by assumption) ?_
      rotate_left
      · (intro w hSw; (try dsimp only at hSw); go_simp; try with_reducible rfl)
      simp only [Act.put, List.getElem_toArray, List.getElem_cons_zero, List.getElem_cons_succ, List.setIfInBounds_toArray, List.set_cons_zero, List.set_cons_succ]
      refine wpAnyH_take (i := 18) (v := ?_) rfl (by kernel_rfl) (by kernel_rfl) (by kernel_rfl) (fun _ _ _ h => h) (Or.inl ⟨by rfl, ?_⟩) (by assumption) ?_
      rotate_left
      · (intro w hSw; (try dsimp only at hSw); go_simp; try with_reducible rfl)
      simp only [Act.put, List.getElem_toArray, List.getElem_cons_zero, List.getElem_cons_succ, List.setIfInBounds_toArray, List.set_cons_zero, List.set_cons_succ]
      refine wpAnyH_take (i := 19) (v := ?_) rfl (by kernel_rfl) (by kernel_rfl) (by kernel_rfl) (fun _ _ _ h => h) (Or.inl ⟨by rfl, ?_⟩) (by assumption) ?_
      rotate_left
      · (intro w hSw; (try dsimp only at hSw); go_simp; try with_reducible rfl)
      simp only [Act.put, List.getElem_toArray, List.getElem_cons_zero, List.getElem_cons_succ, List.setIfInBounds_toArray, List.set_cons_zero, List.set_cons_succ]
      refine wpAnyH_take (i := 20) (v := ?_) rfl (by kernel_rfl) (by kernel_rfl) (by kernel_rfl) (fun _ _ _ h => h) (Or.inl ⟨by rfl, ?_⟩) (by assumption) ?_
      rotate_left
      · (intro w hSw; (try dsimp only at hSw); go_simp; try with_reducible rfl)
      simp only [Act.put, List.getElem_toArray, List.getElem_cons_zero, List.getElem_cons_succ, List.setIfInBounds_toArray, List.set_cons_zero, List.set_cons_succ]
      refine wpAnyH_take (i := 21) (v := .agg (cellsOf lc).toArray) rfl (by kernel_rfl) (by kernel_rfl) (by kernel_rfl) (fun _ _ _ h => h) (yieldsIf_load_mid (by rfl) 24 (.tmp 95) rfl gq 32 rfl (cellsOf lc) _ (fun _ h => h.2.2.2.2.2) Tryd.underlying24 rfl HILC.out) (by assumption) ?_
      simp only [Act.put, List.getElem_toArray, List.getElem_cons_zero, List.getElem_cons_succ, List.setIfInBounds_toArray, List.set_cons_zero, List.set_cons_succ]
      refine wpAnyH_take (i := 22) (v := ?_) rfl (by kernel_rfl) (by kernel_rfl) (by kernel_rfl) (fun _ _ _ h => h) (Or.inl ⟨by rfl, ?_⟩) (by assumption) ?_
      rotate_left
      · (intro w hSw; (try dsimp only at hSw); go_simp; try with_reducible rfl)
      simp only [Act.put, List.getElem_toArray, List.getElem_cons_zero, List.getElem_cons_succ, List.setIfInBounds_toArray, List.set_cons_zero, List.set_cons_succ]
      refine wpAnyH_take (i := 23) (v := ?_) rfl (by kernel_rfl) (by kernel_rfl) (by kernel_rfl) (fun _ _ _ h => h) (Or.inl ⟨by rfl, ?_⟩) (by assumption) ?_
      rotate_left
      · (intro w hSw; (try dsimp only at hSw); go_simp; try with_reducible rfl)
      simp only [Act.put, List.getElem_toArray, List.getElem_cons_zero, List.getElem_cons_succ, List.setIfInBounds_toArray, List.set_cons_zero, List.set_cons_succ]
      refine wpAnyH_take (i := 24) (v := ?_) rfl (by kernel_rfl) (by kernel_rfl) (by kernel_rfl) (fun _ _ _ h => h) (Or.inl ⟨by rfl, ?_⟩) (by assumption) ?_
      rotate_left
      · (intro w hSw; (try dsimp only at hSw); go_simp; try with_reducible rfl)
      simp only [Act.put, List.getElem_toArray, List.getElem_cons_zero, List.getElem_cons_succ, List.setIfInBounds_toArray, List.set_cons_zero, List.set_cons_succ]
      refine wpAnyH_ready (rs := [25]) (by kernel_rfl) (by simp) ?_
      refine AllReadyH.cons rfl (fun K hK => ?_) AllReadyH.nil
      go_simp
      refine (HLC.out _ (HW8.out _ HC1.out)).mono ?_
      rintro e y2 ⟨rfl, hy2⟩
      have HC2 : Hid (Below w8.heap.size w8 y2) := HC1.out.trans (hy2.mono HC1.out.size)
      try unfold dv
      go_wp2_with fail
      refine hK.out _ _ (HS4.out _ (HS8.out _ HC2.out)) (fun hHeld2 => ?_)
      clear hK K
      refine wpAnyH_take (i := 26) (v := ?_) rfl (by kernel_rfl) (by kernel_rfl) (by kernel_rfl) (fun _ _ _ h => h) (Or.inl ⟨by rfl, ?_⟩) (by assumption) ?_
      rotate_left
      · (intro w hSw; (try dsimp only at hSw); go_simp; try with_reducible rfl)
      simp only [Act.put, List.getElem_toArray, List.getElem_cons_zero, List.getElem_cons_succ, List.setIfInBounds_toArray, List.set_cons_zero, List.set_cons_succ]
      refine wpAnyH_take (i := 27) (v := ?_) rfl (by kernel_rfl) (by kernel_rfl) (by kernel_rfl) (fun _ _ _ h => h) (Or.inl ⟨by rfl, ?_⟩) (by assumption) ?_
      rotate_left
      · (intro w hSw; (try dsimp only at hSw); go_simp; try with_reducible rfl)
      simp only [Act.put, List.getElem_toArray, List.getElem_cons_zero, List.getElem_cons_succ, List.setIfInBounds_toArray, List.set_cons_zero, List.set_cons_succ]
      refine wpAnyH_take (i := 28) (v := ?_) rfl (by kernel_rfl) (by kernel_rfl) (by kernel_rfl) (fun _ _ _ h => h) (Or.inl ⟨by rfl, ?_⟩) (by assumption) ?_
      rotate_left
      · (intro w hSw; (try dsimp only at hSw); go_simp; try with_reducible rfl)
      simp only [Act.put, List.getElem_toArray, List.getElem_cons_zero, List.getElem_cons_succ, List.setIfInBounds_toArray, List.set_cons_zero, List.set_cons_succ]
      refine wpAnyH_take (i := 29) (v := .agg (cellsOf rt).toArray) rfl (by kernel_rfl) (by kernel_rfl) (by kernel_rfl) (fun _ _ _ h => h) (yieldsIf_load_mid (by rfl) 24 (.tmp 3) rfl w1.heap.size 0 rfl (cellsOf rt) _ (fun _ h => h.2.2.1) Tryd.underlying24 rfl HIR.out) (by assumption) ?_
      simp only [Act.put, List.getElem_toArray, List.getElem_cons_zero, List.getElem_cons_succ, List.setIfInBounds_toArray, List.set_cons_zero, List.set_cons_succ]
      refine wpAnyH_take (i := 30) (v := ?_) rfl (by kernel_rfl) (by kernel_rfl) (by kernel_rfl) (fun _ _ _ h => h) (Or.inl ⟨by rfl, ?_⟩) (by assumption) ?_
      rotate_left
      · (intro w hSw; (try dsimp only at hSw); go_simp; try with_reducible rfl)
      simp only [Act.put, List.getElem_toArray, List.getElem_cons_zero, List.getElem_cons_succ, List.setIfInBounds_toArray, List.set_cons_zero, List.set_cons_succ]
      refine wpAnyH_take (i := 31) (v := ?_) rfl (by kernel_rfl) (by kernel_rfl) (by kernel_rfl) (fun _ _ _ h => h) (Or.inl ⟨by rfl, ?_⟩) (by assumption) ?_
      rotate_left
      · (intro w hSw; (try dsimp only at hSw); go_simp; try with_reducible rfl)
      simp only [Act.put, List.getElem_toArray, List.getElem_cons_zero, List.getElem_cons_succ, List.setIfInBounds_toArray, List.set_cons_zero, List.set_cons_succ]
      refine wpAnyH_take (i := 32) (v := ?_) rfl (by kernel_rfl) (by kernel_rfl) (by kernel_rfl) (fun _ _ _ h => h) (Or.inl ⟨by rfl, ?_⟩) (by assumption) ?_
      rotate_left
      · (intro w hSw; (try dsimp only at hSw); go_simp; try with_reducible rfl)
      simp only [Act.put, List.getElem_toArray, List.getElem_cons_zero, List.getElem_cons_succ, List.setIfInBounds_toArray, List.set_cons_zero, List.set_cons_succ]
      refine wpAnyH_take (i := 33) (v := ?_) rfl (by kernel_rfl) (by kernel_rfl) (by kernel_rfl) (fun _ _ _ h => h) (Or.inl ⟨by rfl, ?_⟩) (by assumption) ?_
      rotate_left
      · (intro w hSw; (try dsimp only at hSw); go_simp; try with_reducible rfl)
      simp only [Act.put, List.getElem_toArray, List.getElem_cons_zero, List.getElem_cons_succ, List.setIfInBounds_toArray, List.set_cons_zero, List.set_cons_succ]
      refine wpAnyH_ready (rs := [34]) (by kernel_rfl) (by simp) ?_
      refine AllReadyH.cons rfl (fun K hK => ?_) AllReadyH.nil
      go_simp
      refine (HCK1.out _ HC2.out).mono ?_
      rintro e y3 ⟨rfl, hy3⟩
      have HC3 : Hid (Below w8.heap.size w8 y3) := HC2.out.trans (hy3.mono HC2.out.size)
      try unfold dv
      go_wp2_with fail
      refine hK.out _ _ (HS4.out _ (HS8.out _ HC3.out)) (fun hHeld2 => ?_)
      clear hK K
      refine wpAnyH_take (i := 35) (v := ?_) rfl (by kernel_rfl) (by kernel_rfl) (by kernel_rfl) (fun _ _ _ h => h) (Or.inl ⟨by rfl, ?_⟩) (by assumption) ?_
      rotate_left
      · (intro w hSw; (try dsimp only at hSw); go_simp; try with_reducible rfl)
      simp only [Act.put, List.getElem_toArray, List.getElem_cons_zero, List.getElem_cons_succ, List.setIfInBounds_toArray, List.set_cons_zero, List.set_cons_succ]
      refine wpAnyH_take (i := 36) (v := ?_) rfl (by kernel_rfl) (by kernel_rfl) (by kernel_rfl) (fun _ _ _ h => h) (Or.inl ⟨by rfl, ?_⟩) (by assumption) ?_
      rotate_left
      · (intro w hSw; (try dsimp only at hSw); go_simp; try with_reducible rfl)
      simp only [Act.put, List.getElem_toArray, List.getElem_cons_zero, List.getElem_cons_succ, List.setIfInBounds_toArray, List.set_cons_zero, List.set_cons_succ]
      refine wpAnyH_take (i := 37) (v := .agg (cellsOf rt).toArray) rfl (by kernel_rfl) (by kernel_rfl) (by kernel_rfl) (fun _ _ _ h => h) (yieldsIf_load_mid (by rfl) 24 (.tmp 3) rfl w1.heap.size 0 rfl (cellsOf rt) _ (fun _ h => h.2.2.1) Tryd.underlying24 rfl HIR.out) (by assumption) ?_
      simp only [Act.put, List.getElem_toArray, List.getElem_cons_zero, List.getElem_cons_succ, List.setIfInBounds_toArray, List.set_cons_zero, List.set_cons_succ]
      refine wpAnyH_take (i := 38) (v := ?_) rfl (by kernel_rfl) (by kernel_rfl) (by kernel_rfl) (fun _ _ _ h => h) (Or.inl ⟨by rfl, ?_⟩) (by assumption) ?_
      rotate_left
      · (intro w hSw; (try dsimp only at hSw); go_simp; try with_reducible rfl)
      simp only [Act.put, List.getElem_toArray, List.getElem_cons_zero, List.getElem_cons_succ, List.setIfInBounds_toArray, List.set_cons_zero, List.set_cons_succ]
      refine wpAnyH_take (i := 39) (v := ?_) rfl (by kernel_rfl) (by kernel_rfl) (by kernel_rfl) (fun _ _ _ h => h) (Or.inl ⟨by rfl, ?_⟩) (by assumption) ?_
      rotate_left
      · (intro w hSw; (try dsimp only at hSw); go_simp; try with_reducible rfl)
      simp only [Act.put, List.getElem_toArray, List.getElem_cons_zero, List.getElem_cons_succ, List.setIfInBounds_toArray, List.set_cons_zero, List.set_cons_succ]
      refine wpAnyH_take (i := 40) (v := ?_) rfl (by kernel_rfl) (by kernel_rfl) (by kernel_rfl) (fun _ _ _ h => h) (Or.inl ⟨by rfl, ?_⟩) (by assumption) ?_
      rotate_left
      · (intro w hSw; (try dsimp only at hSw); go_simp; try with_reducible rfl)
      simp only [Act.put, List.getElem_toArray, List.getElem_cons_zero, List.getElem_cons_succ, List.setIfInBounds_toArray, List.set_cons_zero, List.set_cons_succ]
      refine wpAnyH_ready (rs := [41]) (by kernel_rfl) (by simp) ?_
      refine AllReadyH.cons rfl (fun K hK => ?_) AllReadyH.nil
      go_simp
      refine (HCK2.out _ HC3.out).mono ?_
      rintro e y4 ⟨rfl, hy4⟩
      have HC4 : Hid (Below w8.heap.size w8 y4) := HC3.out.trans (hy4.mono HC3.out.size)
      try unfold dv
      go_wp2_with fail
      refine hK.out _ _ (HS4.out _ (HS8.out _ HC4.out)) (fun hHeld2 => ?_)
      clear hK K
      refine wpAnyH_take (i := 42) (v := ?_) rfl (by kernel_rfl) (by kernel_rfl) (by kernel_rfl) (fun _ _ _ h => h) (Or.inl ⟨by rfl, ?_⟩) (by assumption) ?_
      rotate_left
      · (intro w hSw; (try dsimp only at hSw); go_simp; try with_reducible rfl)
      simp only [Act.put, List.getElem_toArray, List.getElem_cons_zero, List.getElem_cons_succ, List.setIfInBounds_toArray, List.set_cons_zero, List.set_cons_succ]
      refine wpAnyH_take (i := 43) (v := ?_) rfl (by kernel_rfl) (by kernel_rfl) (by kernel_rfl) (fun _ _ _ h => h) (Or.inl ⟨by rfl, ?_⟩) (by assumption) ?_
      rotate_left
      · (intro w hSw; (try dsimp only at hSw); go_simp; try with_reducible rfl)
      simp only [Act.put, List.getElem_toArray, List.getElem_cons_zero, List.getElem_cons_succ, List.setIfInBounds_toArray, List.set_cons_zero, List.set_cons_succ]
      refine wpAnyH_take (i := 44) (v := ?_) rfl (by kernel_rfl) (by kernel_rfl) (by kernel_rfl) (fun _ _ _ h => h) (Or.inl ⟨by rfl, ?_⟩) (by assumption) ?_
      rotate_left
      · (intro w hSw; (try dsimp only at hSw); go_simp; try with_reducible rfl)
      simp only [Act.put, List.getElem_toArray, List.getElem_cons_zero, List.getElem_cons_succ, List.setIfInBounds_toArray, List.set_cons_zero, List.set_cons_succ]
      refine wpAnyH_take (i := 45) (v := .agg (cellsOf rt).toArray) rfl (by kernel_rfl) (by kernel_rfl) (by kernel_rfl) (fun _ _ _ h => h) (yieldsIf_load_mid (by rfl) 24 (.tmp 3) rfl w1.heap.size 0 rfl (cellsOf rt) _ (fun _ h => h.2.2.1) Tryd.underlying24 rfl HIR.out) (by assumption) ?_
      simp only [Act.put, List.getElem_toArray, List.getElem_cons_zero, List.getElem_cons_succ, List.setIfInBounds_toArray, List.set_cons_zero, List.set_cons_succ]
      refine wpAnyH_take (i := 46) (v := ?_) rfl (by kernel_rfl) (by kernel_rfl) (by kernel_rfl) (fun _ _ _ h => h) (Or.inl ⟨by rfl, ?_⟩) (by assumption) ?_
      rotate_left
      · (intro w hSw; (try dsimp only at hSw); go_simp; try with_reducible rfl)
      simp only [Act.put, List.getElem_toArray, List.getElem_cons_zero, List.getElem_cons_succ, List.setIfInBounds_toArray, List.set_cons_zero, List.set_cons_succ]
      refine wpAnyH_take (i := 47) (v := ?_) rfl (by kernel_rfl) (by kernel_rfl) (by kernel_rfl) (fun _ _ _ h => h) (Or.inl ⟨by rfl, ?_⟩) (by assumption) ?_
      rotate_left
      · (intro w hSw; (try dsimp only at hSw); go_simp; try with_reducible rfl)
      simp only [Act.put, List.getElem_toArray, List.getElem_cons_zero, List.getElem_cons_succ, List.setIfInBounds_toArray, List.set_cons_zero, List.set_cons_succ]
      refine wpAnyH_take (i := 48) (v := ?_) rfl (by kernel_rfl) (by kernel_rfl) (by kernel_rfl) (fun _ _ _ h => h) (Or.inl ⟨by rfl, ?_⟩) (by assumption) ?_
      rotate_left
      · (intro w hSw; (try dsimp only at hSw); go_simp; try with_reducible rfl)
      simp only [Act.put, List.getElem_toArray, List.getElem_cons_zero, List.getElem_cons_succ, List.setIfInBounds_toArray, List.set_cons_zero, List.set_cons_succ]
      refine wpAnyH_ready (rs := [49]) (by kernel_rfl) (by simp) ?_
      refine AllReadyH.cons rfl (fun K hK => ?_) AllReadyH.nil
      go_simp
      refine (HCR1.out _ HC4.out).mono ?_
      rintro e y5 ⟨rfl, hy5⟩
      have HC5 : Hid (Below w8.heap.size w8 y5) := HC4.out.trans (hy5.mono HC4.out.size)
      try unfold dv
      go_wp2_with fail
      refine hK.out _ _ (HS4.out _ (HS8.out _ HC5.out)) (fun hHeld2 => ?_)
      clear hK K
      refine wpAnyH_take (i := 50) (v := ?_) rfl (by kernel_rfl) (by kernel_rfl) (by kernel_rfl) (fun _ _ _ h => h) (Or.inl ⟨by rfl, ?_⟩) (by assumption) ?_
      rotate_left
      · (intro w hSw; (try dsimp only at hSw); go_simp; try with_reducible rfl)
      simp only [Act.put, List.getElem_toArray, List.getElem_cons_zero, List.getElem_cons_succ, List.setIfInBounds_toArray, List.set_cons_zero, List.set_cons_succ]
      refine wpAnyH_take (i := 51) (v := ?_) rfl (by kernel_rfl) (by kernel_rfl) (by kernel_rfl) (fun _ _ _ h => h) (Or.inl ⟨by rfl, ?_⟩) (by assumption) ?_
      rotate_left
      · (intro w hSw; (try dsimp only at hSw); go_simp; try with_reducible rfl)
      simp only [Act.put, List.getElem_toArray, List.getElem_cons_zero, List.getElem_cons_succ, List.setIfInBounds_toArray, List.set_cons_zero, List.set_cons_succ]
      refine wpAnyH_take (i := 52) (v := .agg (cellsOf rt).toArray) rfl (by kernel_rfl) (by kernel_rfl) (by kernel_rfl) (fun _ _ _ h => h) (yieldsIf_load_mid (by rfl) 24 (.tmp 3) rfl w1.heap.size 0 rfl (cellsOf rt) _ (fun _ h => h.2.2.1) Tryd.underlying24 rfl HIR.out) (by assumption) ?_
      simp only [Act.put, List.getElem_toArray, List.getElem_cons_zero, List.getElem_cons_succ, List.setIfInBounds_toArray, List.set_cons_zero, List.set_cons_succ]
      refine wpAnyH_take (i := 53) (v := ?_) rfl (by kernel_rfl) (by kernel_rfl) (by kernel_rfl) (fun _ _ _ h => h) (Or.inl ⟨by rfl, ?_⟩) (by assumption) ?_
      rotate_left
      · (intro w hSw; (try dsimp only at hSw); go_simp; try with_reducible rfl)
      simp only [Act.put, List.getElem_toArray, List.getElem_cons_zero, List.getElem_cons_succ, List.setIfInBounds_toArray, List.set_cons_zero, List.set_cons_succ]
      refine wpAnyH_ready (rs := [54]) (by kernel_rfl) (by simp) ?_
      refine AllReadyH.cons rfl (fun K hK => ?_) AllReadyH.nil
      go_simp
      refine (HCR2.out _ HC5.out).mono ?_
      rintro e y6 ⟨rfl, hy6⟩
      have HC6 : Hid (Below w8.heap.size w8 y6) := HC5.out.trans (hy6.mono HC5.out.size)
      try unfold dv
      go_wp2_with fail
      refine hK.out _ _ (HS4.out _ (HS8.out _ HC6.out)) (fun hHeld2 => ?_)
      clear hK K
      refine wpAnyH_take (i := 55) (v := ?_) rfl (by kernel_rfl) (by kernel_rfl) (by kernel_rfl) (fun _ _ _ h => h) (Or.inl ⟨by rfl, ?_⟩) (by assumption) ?_
      rotate_left
      · (intro w hSw; (try dsimp only at hSw); go_simp; try with_reducible rfl)
      simp only [Act.put, List.getElem_toArray, List.getElem_cons_zero, List.getElem_cons_succ, List.setIfInBounds_toArray, List.set_cons_zero, List.set_cons_succ]
      refine wpAnyH_take (i := 56) (v := ?_) rfl (by kernel_rfl) (by kernel_rfl) (by kernel_rfl) (fun _ _ _ h => h) (Or.inl ⟨by rfl, ?_⟩) (by assumption) ?_
      rotate_left
      · (intro w hSw; (try dsimp only at hSw); go_simp; try with_reducible rfl)
      simp only [Act.put, List.getElem_toArray, List.getElem_cons_zero, List.getElem_cons_succ, List.setIfInBounds_toArray, List.set_cons_zero, List.set_cons_succ]
      refine wpAnyH_take (i := 57) (v := ?_) rfl (by kernel_rfl) (by kernel_rfl) (by kernel_rfl) (fun _ _ _ h => h) (Or.inl ⟨by rfl, ?_⟩) (by assumption) ?_
      rotate_left
      · (intro w hSw; (try dsimp only at hSw); go_simp; try with_reducible rfl)
      simp only [Act.put, List.getElem_toArray, List.getElem_cons_zero, List.getElem_cons_succ, List.setIfInBounds_toArray, List.set_cons_zero]
      refine wpAnyH_done (by kernel_rfl) ?_ _
      clear hS hHeld2
      go_wp2_with fail
      go_ret
      have hfin := HW8.out _ HC6.out
      have hf := HFH.out.2.2.2.2
      exact ⟨rfl, hf.1.trans (hfin.mono (by omega))⟩
end Go.Proofs.YtaebpnednhkfhaaDoor
