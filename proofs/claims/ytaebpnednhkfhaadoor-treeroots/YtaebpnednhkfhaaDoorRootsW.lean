/-
  The walk of marlstonelaw05.TreeRoots.
-/
import Derived.Test.YtaebpnednhkfhaaDoorShown
import Derived.Test.YtaebpnednhkfhaaDoorRefR
namespace Go.Proofs.YtaebpnednhkfhaaDoor
open Go.RowKit
set_option maxRecDepth 100000 in
set_option maxHeartbeats 20000000 in
theorem roots_walk (z : Int) (a0 : Option Addr) (n0 c0 : Nat) (b off : Nat) (ps : List PP) (da db : List UInt8) (w : World) (hP : Pieces w b off ps) (hn : ps.length = n0) (ha : 0 < n0 → a0 = some ⟨b, off, none⟩) (hK : WW w 0 ks) (h0 : 0 < w.heap.size) (hz : -9223372036854775808 ≤ z ∧ z ≤ 9223372036854775807) (hda : da.length = 32) (hdb : db.length = 32) :
    Calls Tryd.prog 3 #[.int .i64 z, .slice a0 n0 c0, dv da, dv db] w fun e w' => e = .returned (.bool true) ∧ Below w.heap.size w w' := by
  have HKW : Hid (WW w 0 ks ∧ 0 < w.heap.size) := ⟨hK, h0⟩
  have HSH : Hid (∀ W, Below w.heap.size w W → Calls Tryd.prog 20 #[] W fun e w' => e = .returned (.bool true) ∧ Below W.heap.size W w') := fun W hW => shown_any W (hK.below hW h0) (Nat.lt_of_lt_of_le h0 hW.size)
  have HSM : Hid (∀ W, Below w.heap.size w W → Calls Tryd.prog 21 #[.slice a0 n0 c0] W fun e w' => ∃ ao' n' c', e = .returned (.slice ao' n' c') ∧ CutV w' ao' n' c' (cutL ps 70 200) ∧ n' ≤ 70 ∧ Below W.heap.size W w') := fun W hW => small_any b off n0 c0 a0 ps W (hP.below hW (Nat.le_refl _)) hn ha
  have HZ : Hid (-9223372036854775808 ≤ z ∧ z ≤ 9223372036854775807) := hz
  clear hP hn ha hK h0 hz
  have HAL : Hid (da.length = 32) := hda
  have HBL : Hid (db.length = 32) := hdb
  have HIA : Hid ((Tryd.prog.info? 24).map (·.size) = some (cellsOf da).length) := by show _ = _; rw [size24, cellsOf_length, hda]
  have HIB : Hid ((Tryd.prog.info? 24).map (·.size) = some (cellsOf db).length) := by show _ = _; rw [size24, cellsOf_length, hdb]
  clear hda hdb
  unfold dv
  obtain ⟨ca, HCA⟩ : ∃ c, Hid ((cellsOf da).toArray = c) := ⟨_, rfl⟩
  obtain ⟨cb, HCB⟩ : ∃ c, Hid ((cellsOf db).toArray = c) := ⟨_, rfl⟩
  rw [HCA.out, HCB.out]
  go_enter Tryd.func3, Tryd.ntmps3
  go_wp2_with fail
  refine (HSH.out _ (frame2 w (Obj.cells ca 24) cb 24).2.2.1).mono ?_
  rintro e w1 ⟨rfl, hb1⟩
  have HB1 : Hid (Below w.heap.size w w1) := (frame2 w (Obj.cells ca 24) cb 24).2.2.1.trans (hb1.mono (frame2 w (Obj.cells ca 24) cb 24).2.2.1.size)
  have HB01 : Hid (Below _ _ w1) := hb1
  clear hb1
  go_wp2_with fail
  refine (HSM.out _ HB1.out).mono ?_
  rintro e w2 ⟨ao, n, c, rfl, ⟨ls, hL, hE⟩, hn70, hb2⟩
  have HLV : Hid (LeavesV w2 ao n c ls) := hL
  have HEL : Hid (bytesL ls = cutL ps 70 200) := hE
  have HN70 : Hid (n ≤ 70) := hn70
  have HB2 : Hid (Below w.heap.size w w2) := HB1.out.trans (hb2.mono HB1.out.size)
  have HB02 : Hid (Below _ _ w2) := HB01.out.trans (hb2.mono HB01.out.size)
  have HKB : Hid (∀ W, Below w2.heap.size w2 W → WW W 0 ks ∧ 0 < W.heap.size) := fun W hW => by
    have h1 := HB2.out.trans (hW.mono HB2.out.size)
    exact ⟨HKW.out.1.below h1 HKW.out.2, Nat.lt_of_lt_of_le HKW.out.2 h1.size⟩
  clear hL hE hn70 hb2 HB1 HSH HSM HB01
  go_wp2_with fail
  refine (texts_any ao n c ls w2 HLV.out (Nat.le_trans HN70.out (by omega))).mono ?_
  rintro e wT ⟨aoS, cS, rfl, hst, hbT⟩
  have HST : Hid (StrV wT aoS n cS (strs ls)) := hst
  have HBT : Hid (Below w2.heap.size w2 wT) := hbT
  have HLVT : Hid (LeavesV wT ao n c ls) := HLV.out.below hbT (Nat.le_refl _)
  have HB2T : Hid (Below w.heap.size w wT) := HB2.out.trans (hbT.mono HB2.out.size)
  have HKBT : Hid (∀ W, Below wT.heap.size wT W → WW W 0 ks ∧ 0 < W.heap.size) := fun W hW => HKB.out W (HBT.out.trans (hW.mono HBT.out.size))
  have HSZ : Hid (∀ s ∈ strs ls, s.size ≤ 1000) := fun s hs => by
    obtain ⟨p, hp, rfl⟩ := List.mem_map.1 hs
    have h1 : p.bs ∈ bytesL ls := List.mem_map.2 ⟨p, hp, rfl⟩
    rw [HEL.out] at h1
    obtain ⟨q, -, h2⟩ := List.mem_map.1 h1
    show p.bs.toArray.size ≤ 1000
    rw [List.size_toArray, ← h2, List.length_take]
    omega
  clear hst hbT
  obtain ⟨w3, HW3⟩ : ∃ W, Hid (wT.alloc (Obj.cells #[Value.int IntKind.i64 z] 30) = W) := ⟨_, rfl⟩
  have HB3 : Hid (Below wT.heap.size wT w3) := by show Below _ _ _; rw [← HW3.out]; exact bel_alloc _ _
  have HN3 : Hid (w3.heap[wT.heap.size]? = some (.cells #[Value.int IntKind.i64 z] 30 (0, 0))) := by show _ = _; rw [← HW3.out]; exact heap_alloc_new _ _
  have HKB3 : Hid (∀ W, Below w3.heap.size w3 W → WW W 0 ks ∧ 0 < W.heap.size) := fun W hW => HKBT.out W (HB3.out.trans (hW.mono HB3.out.size))
  have HLV3 : Hid (∀ W, Below w3.heap.size w3 W → LeavesV W ao n c ls) := fun W hW => (HLVT.out.below HB3.out (Nat.le_refl _)).below hW (Nat.le_refl _)
  have HBW : Hid (∀ W, Below w3.heap.size w3 W → Below w.heap.size w W) := fun W hW => HB2T.out.trans ((HB3.out.trans (hW.mono HB3.out.size)).mono HB2T.out.size)
  have HNC : Hid (n ≤ c ∧ c ≤ 9223372036854775807) := ⟨HLVT.out.2.1, HLVT.out.2.2.1⟩
  have HCZ : Hid (∀ W, Below w3.heap.size w3 W → W.cell? ⟨wT.heap.size, 0, none⟩ = some (.int .i64 z)) := fun W hW => bel_cell2 hW (Nat.le_refl _) (by rw [cell_of_row w3 _ 0 _ _ _ HN3.out]; rfl)
  have HAR : Hid (w2.rangeAt w.heap.size 0 (cellsOf da)) := range_bel (range_of (by rw [HCA.out]; exact (frame2 w (Obj.cells ca 24) cb 24).1)) HB02.out (Nat.le_refl _)
  have HBR : Hid (w2.rangeAt (w.heap.size + 1) 0 (cellsOf db)) := range_bel (range_of (by rw [HCB.out]; exact (frame2 w (Obj.cells ca 24) cb 24).2.1)) HB02.out (Nat.le_refl _)
  have HN1 : Hid (n ≤ 1000) := Nat.le_trans HN70.out (by omega)
  have HST3 : Hid (∀ W, Below w3.heap.size w3 W → StrV W aoS n cS (strs ls)) := fun W hW => (HST.out.below HB3.out (Nat.le_refl _)).below hW (Nat.le_refl _)
  obtain ⟨rt, HRT⟩ : ∃ d, Hid (rootD z (bytesL ls) = d) := ⟨_, rfl⟩
  obtain ⟨rq, HRQ⟩ : ∃ d, Hid (rootD 256 (bytesL ls) = d) := ⟨_, rfl⟩
  obtain ⟨nd, HND⟩ : ∃ d, Hid (nodeD z da db = d) := ⟨_, rfl⟩
  obtain ⟨nq, HNQ⟩ : ∃ d, Hid (nodeD 256 da db = d) := ⟨_, rfl⟩
  have heq1 := eq_same rt (by rw [← HRT.out]; exact rootD_length _ _)
  have heq2 := eq_same rq (by rw [← HRQ.out]; exact rootD_length _ _)
  have heq3 := eq_same nd (by rw [← HND.out]; exact nodeD_length _ _ _)
  have heq4 := eq_same nq (by rw [← HNQ.out]; exact nodeD_length _ _ _)
  have hg := guard24
  have C1 : Hid (∀ W, Below w3.heap.size w3 W → Calls Tryd.prog 23 #[.agg #[.int .i64 z], .slice ao n c] W fun e w' => e = .returned (dv rt) ∧ Below W.heap.size W w') := fun W hW => by
    have h := root_any z HZ.out n _ c _ W (HLV3.out W hW) HN1.out (HKB3.out W hW).1 (HKB3.out W hW).2
    rw [HRT.out] at h; exact h
  have C2 : Hid (∀ W, Below w3.heap.size w3 W → Calls Tryd.prog 24 #[.int .i64 z, .slice aoS n cS] W fun e w' => e = .returned (dv rt) ∧ Below W.heap.size W w') := fun W hW => by
    have h := refRoot_any z HZ.out n _ cS _ W (HST3.out W hW) HN1.out HSZ.out
    rw [strs_bytes, HRT.out] at h; exact h
  have C3 : Hid (∀ W, Below w3.heap.size w3 W → Calls Tryd.prog 25 #[.slice ao n c] W fun e w' => e = .returned (dv rq) ∧ Below W.heap.size W w') := fun W hW => by
    have h := rootN_any ao n c ls W (HLV3.out W hW) HN1.out (HKB3.out W hW).1 (HKB3.out W hW).2
    rw [HRQ.out] at h; exact h
  have C4 : Hid (∀ W, Below w3.heap.size w3 W → Calls Tryd.prog 24 #[.int .i64 256, .slice aoS n cS] W fun e w' => e = .returned (dv rq) ∧ Below W.heap.size W w') := fun W hW => by
    have h := refRoot_any 256 z256 n _ cS _ W (HST3.out W hW) HN1.out HSZ.out
    rw [strs_bytes, HRQ.out] at h; exact h
  have C5 : Hid (∀ W, Below w3.heap.size w3 W → Calls Tryd.prog 26 #[.agg #[.int .i64 z], .agg (cellsOf da).toArray, .agg (cellsOf db).toArray] W fun e w' => e = .returned (dv nd) ∧ Below W.heap.size W w') := fun W hW => by
    have h := node_any z da db W HAL.out HBL.out (HKB3.out W hW).1 (HKB3.out W hW).2 HZ.out
    rw [HND.out] at h; exact h
  have C6 : Hid (∀ W, Below w3.heap.size w3 W → Calls Tryd.prog 27 #[.int .i64 z, .agg (cellsOf da).toArray, .agg (cellsOf db).toArray] W fun e w' => e = .returned (dv nd) ∧ Below W.heap.size W w') := fun W hW => by
    have h := refNode_any z da db W HAL.out HBL.out HZ.out
    rw [HND.out] at h; exact h
  have C7 : Hid (∀ W, Below w3.heap.size w3 W → Calls Tryd.prog 28 #[.agg (cellsOf da).toArray, .agg (cellsOf db).toArray] W fun e w' => e = .returned (dv nq) ∧ Below W.heap.size W w') := fun W hW => by
    have h := nodeN_any da db W HAL.out HBL.out (HKB3.out W hW).1 (HKB3.out W hW).2
    rw [HNQ.out] at h; exact h
  have C8 : Hid (∀ W, Below w3.heap.size w3 W → Calls Tryd.prog 27 #[.int .i64 256, .agg (cellsOf da).toArray, .agg (cellsOf db).toArray] W fun e w' => e = .returned (dv nq) ∧ Below W.heap.size W w') := fun W hW => by
    have h := refNode_any 256 da db W HAL.out HBL.out z256
    rw [HNQ.out] at h; exact h
  have HS : Hid (∀ W, Below w3.heap.size w3 W → W.cell? ⟨wT.heap.size, 0, none⟩ = some (.int .i64 z) ∧ W.rangeAt w.heap.size 0 (cellsOf da) ∧ W.rangeAt (w.heap.size + 1) 0 (cellsOf db)) := fun W hW =>
    ⟨HCZ.out W hW, range_bel (range_bel (range_bel HAR.out HBT.out (Nat.le_refl _)) HB3.out (Nat.le_refl _)) hW (Nat.le_refl _), range_bel (range_bel (range_bel HBR.out HBT.out (Nat.le_refl _)) HB3.out (Nat.le_refl _)) hW (Nat.le_refl _)⟩
  clear HAR HBR
  go_upto_region 5 with fail
  rw [HW3.out]
  go_cut [53] (fun s53 wx => s53 = .bool false ∧ Hid (Below w3.heap.size w3 wx))
  case first =>
    refine wp_region_held_drew (S := fun W => W.cell? ⟨wT.heap.size, 0, none⟩ = some (.int .i64 z) ∧ W.rangeAt w.heap.size 0 (cellsOf da) ∧ W.rangeAt (w.heap.size + 1) 0 (cellsOf db)) (by kernel_rfl) (HS.out _ (Below.drew (Below.refl _ _))) (fun hS => ?_)
    refine wpAnyH_take (i := 0) (v := ?_) rfl (by kernel_rfl) (by kernel_rfl) (by kernel_rfl) (fun _ _ _ h => h) (Or.inl ⟨by rfl, ?_⟩) (by assumption) ?_
    rotate_left
    · (intro w hSw; (try dsimp only at hSw); go_simp; try with_reducible rfl)
    simp only [Act.put, List.getElem_toArray, List.getElem_cons_zero, List.setIfInBounds_toArray, List.set_cons_zero, List.set_cons_succ]
    refine wpAnyH_take (i := 1) (v := ?_) rfl (by kernel_rfl) (by kernel_rfl) (by kernel_rfl) (fun _ _ _ h => h) (Or.inl ⟨by rfl, ?_⟩) (by assumption) ?_
    rotate_left
    · (intro w hSw; (try dsimp only at hSw); go_simp; try with_reducible rfl)
    simp only [Act.put, List.getElem_toArray, List.getElem_cons_zero, List.getElem_cons_succ, List.setIfInBounds_toArray, List.set_cons_zero, List.set_cons_succ]
    refine wpAnyH_take (i := 3) (v := ?_) rfl (by kernel_rfl) (by kernel_rfl) (by kernel_rfl) (fun _ _ _ h => h) (Or.inl ⟨by rfl, ?_⟩) (by assumption) ?_
    rotate_left
    · (intro w hSw; (try dsimp only at hSw); go_simp; try with_reducible rfl)
    simp only [Act.put, List.getElem_toArray, List.getElem_cons_zero, List.getElem_cons_succ, List.setIfInBounds_toArray, List.set_cons_zero, List.set_cons_succ]
    refine wpAnyH_take (i := 4) (v := ?_) rfl (by kernel_rfl) (by kernel_rfl) (by kernel_rfl) (fun _ _ _ h => h) (Or.inl ⟨by rfl, ?_⟩) (by assumption) ?_
    rotate_left
    · (intro w hSw; (try dsimp only at hSw); go_simp; try with_reducible rfl)
    simp only [Act.put, List.getElem_toArray, List.getElem_cons_zero, List.getElem_cons_succ, List.setIfInBounds_toArray, List.set_cons_zero, List.set_cons_succ]
    refine wpAnyH_ready (rs := [2]) (by kernel_rfl) (by simp) ?_
    refine AllReadyH.cons rfl (fun K hK => ?_) AllReadyH.nil
    go_simp
    refine (C1.out _ (Below.drew (Below.refl w3.heap.size w3))).mono ?_
    rintro e y1 ⟨rfl, hy1⟩
    have HC1 : Hid (Below w3.heap.size w3 y1) := (Below.drew (Below.refl w3.heap.size w3)).trans (hy1.mono (Nat.le_refl _))
    clear hy1
    try unfold dv
    go_wp2_with fail
    refine hK.out _ _ (HS.out _ HC1.out) (fun hHeld2 => ?_)
    clear hK K
    refine wpAnyH_ready (rs := [5]) (by kernel_rfl) (by simp) ?_
    refine AllReadyH.cons rfl (fun K hK => ?_) AllReadyH.nil
    go_simp
    refine (C2.out _ HC1.out).mono ?_
    rintro e y2 ⟨rfl, hy2⟩
    have HC2 : Hid (Below w3.heap.size w3 y2) := HC1.out.trans (hy2.mono HC1.out.size)
    clear hy2
    try unfold dv
    go_wp2_with fail
    refine hK.out _ _ (HS.out _ HC2.out) (fun hHeld2 => ?_)
    clear hK K
    refine wpAnyH_take (i := 6) (v := ?_) rfl (by kernel_rfl) (by kernel_rfl) (by kernel_rfl) (fun _ _ _ h => h) (Or.inl ⟨by rfl, ?_⟩) (by assumption) ?_
    rotate_left
    · (intro w hSw; (try dsimp only at hSw); go_simp; try with_reducible rfl)
    simp only [Act.put, List.getElem_toArray, List.getElem_cons_zero, List.getElem_cons_succ, List.setIfInBounds_toArray, List.set_cons_zero, List.set_cons_succ]
    refine wpAnyH_take (i := 7) (v := ?_) rfl (by kernel_rfl) (by kernel_rfl) (by kernel_rfl) (fun _ _ _ h => h) (Or.inl ⟨by rfl, ?_⟩) (by assumption) ?_
    rotate_left
    · (intro w hSw; (try dsimp only at hSw); go_simp; try with_reducible rfl)
    simp only [Act.put, List.getElem_toArray, List.getElem_cons_zero, List.getElem_cons_succ, List.setIfInBounds_toArray, List.set_cons_zero, List.set_cons_succ]
    refine wpAnyH_take (i := 8) (v := ?_) rfl (by kernel_rfl) (by kernel_rfl) (by kernel_rfl) (fun _ _ _ h => h) (Or.inl ⟨by rfl, ?_⟩) (by assumption) ?_
    rotate_left
    · (intro w hSw; (try dsimp only at hSw); go_simp; try with_reducible rfl)
    simp only [Act.put, List.getElem_toArray, List.getElem_cons_zero, List.getElem_cons_succ, List.setIfInBounds_toArray, List.set_cons_zero, List.set_cons_succ]
    refine wpAnyH_take (i := 10) (v := ?_) rfl (by kernel_rfl) (by kernel_rfl) (by kernel_rfl) (fun _ _ _ h => h) (Or.inl ⟨by rfl, ?_⟩) (by assumption) ?_
    rotate_left
    · (intro w hSw; (try dsimp only at hSw); go_simp; try with_reducible rfl)
    simp only [Act.put, List.getElem_toArray, List.getElem_cons_zero, List.getElem_cons_succ, List.setIfInBounds_toArray, List.set_cons_zero, List.set_cons_succ]
    refine wpAnyH_ready (rs := [9]) (by kernel_rfl) (by simp) ?_
    refine AllReadyH.cons rfl (fun K hK => ?_) AllReadyH.nil
    go_simp
    refine (C3.out _ HC2.out).mono ?_
    rintro e y3 ⟨rfl, hy3⟩
    have HC3 : Hid (Below w3.heap.size w3 y3) := HC2.out.trans (hy3.mono HC2.out.size)
    clear hy3
    try unfold dv
    go_wp2_with fail
    refine hK.out _ _ (HS.out _ HC3.out) (fun hHeld2 => ?_)
    clear hK K
    refine wpAnyH_ready (rs := [11]) (by kernel_rfl) (by simp) ?_
    refine AllReadyH.cons rfl (fun K hK => ?_) AllReadyH.nil
    go_simp
    refine (C4.out _ HC3.out).mono ?_
    rintro e y4 ⟨rfl, hy4⟩
    have HC4 : Hid (Below w3.heap.size w3 y4) := HC3.out.trans (hy4.mono HC3.out.size)
    clear hy4
    try unfold dv
    go_wp2_with fail
    refine hK.out _ _ (HS.out _ HC4.out) (fun hHeld2 => ?_)
    clear hK K
    refine wpAnyH_take (i := 12) (v := ?_) rfl (by kernel_rfl) (by kernel_rfl) (by kernel_rfl) (fun _ _ _ h => h) (Or.inl ⟨by rfl, ?_⟩) (by assumption) ?_
    rotate_left
    · (intro w hSw; (try dsimp only at hSw); go_simp; try with_reducible rfl)
    simp only [Act.put, List.getElem_toArray, List.getElem_cons_zero, List.getElem_cons_succ, List.setIfInBounds_toArray, List.set_cons_zero, List.set_cons_succ]
    refine wpAnyH_take (i := 13) (v := ?_) rfl (by kernel_rfl) (by kernel_rfl) (by kernel_rfl) (fun _ _ _ h => h) (Or.inl ⟨by rfl, ?_⟩) (by assumption) ?_
    rotate_left
    · (intro w hSw; (try dsimp only at hSw); go_simp; try with_reducible rfl)
    simp only [Act.put, List.getElem_toArray, List.getElem_cons_zero, List.getElem_cons_succ, List.setIfInBounds_toArray, List.set_cons_zero, List.set_cons_succ]
    refine wpAnyH_take (i := 14) (v := ?_) rfl (by kernel_rfl) (by kernel_rfl) (by kernel_rfl) (fun _ _ _ h => h) (Or.inl ⟨by rfl, ?_⟩) (by assumption) ?_
    rotate_left
    · (intro w hSw; (try dsimp only at hSw); go_simp; try with_reducible rfl)
    simp only [Act.put, List.getElem_toArray, List.getElem_cons_zero, List.getElem_cons_succ, List.setIfInBounds_toArray, List.set_cons_zero, List.set_cons_succ]
    refine wpAnyH_take (i := 15) (v := ?_) rfl (by kernel_rfl) (by kernel_rfl) (by kernel_rfl) (fun _ _ _ h => h) (Or.inl ⟨by rfl, ?_⟩) (by assumption) ?_
    rotate_left
    · (intro w hSw; (try dsimp only at hSw); go_simp; try with_reducible rfl)
    simp only [Act.put, List.getElem_toArray, List.getElem_cons_zero, List.getElem_cons_succ, List.setIfInBounds_toArray, List.set_cons_zero, List.set_cons_succ]
    refine wpAnyH_take (i := 16) (v := .agg (cellsOf da).toArray) rfl (by kernel_rfl) (by kernel_rfl) (by kernel_rfl) (fun _ _ _ h => h) (yieldsIf_load_mid (by rfl) 24 (.tmp 6) rfl w.heap.size 0 rfl (cellsOf da) _ (fun _ h => h.2.1) Tryd.underlying24 rfl HIA.out) (by assumption) ?_
    simp only [Act.put, List.getElem_toArray, List.getElem_cons_zero, List.getElem_cons_succ, List.setIfInBounds_toArray, List.set_cons_zero, List.set_cons_succ]
    refine wpAnyH_take (i := 17) (v := .agg (cellsOf db).toArray) rfl (by kernel_rfl) (by kernel_rfl) (by kernel_rfl) (fun _ _ _ h => h) (yieldsIf_load_mid (by rfl) 24 (.tmp 7) rfl (w.heap.size + 1) 0 rfl (cellsOf db) _ (fun _ h => h.2.2) Tryd.underlying24 rfl HIB.out) (by assumption) ?_
    simp only [Act.put, List.getElem_toArray, List.getElem_cons_zero, List.getElem_cons_succ, List.setIfInBounds_toArray, List.set_cons_zero, List.set_cons_succ]
    refine wpAnyH_take (i := 19) (v := ?_) rfl (by kernel_rfl) (by kernel_rfl) (by kernel_rfl) (fun _ _ _ h => h) (Or.inl ⟨by rfl, ?_⟩) (by assumption) ?_
    rotate_left
    · (intro w hSw; (try dsimp only at hSw); go_simp; try with_reducible rfl)
    simp only [Act.put, List.getElem_toArray, List.getElem_cons_zero, List.getElem_cons_succ, List.setIfInBounds_toArray, List.set_cons_zero, List.set_cons_succ]
    refine wpAnyH_take (i := 20) (v := .agg (cellsOf da).toArray) rfl (by kernel_rfl) (by kernel_rfl) (by kernel_rfl) (fun _ _ _ h => h) (yieldsIf_load_mid (by rfl) 24 (.tmp 6) rfl w.heap.size 0 rfl (cellsOf da) _ (fun _ h => h.2.1) Tryd.underlying24 rfl HIA.out) (by assumption) ?_
    simp only [Act.put, List.getElem_toArray, List.getElem_cons_zero, List.getElem_cons_succ, List.setIfInBounds_toArray, List.set_cons_zero, List.set_cons_succ]
    refine wpAnyH_take (i := 21) (v := .agg (cellsOf db).toArray) rfl (by kernel_rfl) (by kernel_rfl) (by kernel_rfl) (fun _ _ _ h => h) (yieldsIf_load_mid (by rfl) 24 (.tmp 7) rfl (w.heap.size + 1) 0 rfl (cellsOf db) _ (fun _ h => h.2.2) Tryd.underlying24 rfl HIB.out) (by assumption) ?_
    simp only [Act.put, List.getElem_toArray, List.getElem_cons_zero, List.getElem_cons_succ, List.setIfInBounds_toArray, List.set_cons_zero, List.set_cons_succ]
    refine wpAnyH_ready (rs := [18]) (by kernel_rfl) (by simp) ?_
    refine AllReadyH.cons rfl (fun K hK => ?_) AllReadyH.nil
    go_simp
    refine (C5.out _ HC4.out).mono ?_
    rintro e y5 ⟨rfl, hy5⟩
    have HC5 : Hid (Below w3.heap.size w3 y5) := HC4.out.trans (hy5.mono HC4.out.size)
    clear hy5
    try unfold dv
    go_wp2_with fail
    refine hK.out _ _ (HS.out _ HC5.out) (fun hHeld2 => ?_)
    clear hK K
    refine wpAnyH_ready (rs := [22]) (by kernel_rfl) (by simp) ?_
    refine AllReadyH.cons rfl (fun K hK => ?_) AllReadyH.nil
    go_simp
    refine (C6.out _ HC5.out).mono ?_
    rintro e y6 ⟨rfl, hy6⟩
    have HC6 : Hid (Below w3.heap.size w3 y6) := HC5.out.trans (hy6.mono HC5.out.size)
    clear hy6
    try unfold dv
    go_wp2_with fail
    refine hK.out _ _ (HS.out _ HC6.out) (fun hHeld2 => ?_)
    clear hK K
    refine wpAnyH_take (i := 23) (v := ?_) rfl (by kernel_rfl) (by kernel_rfl) (by kernel_rfl) (fun _ _ _ h => h) (Or.inl ⟨by rfl, ?_⟩) (by assumption) ?_
    rotate_left
    · (intro w hSw; (try dsimp only at hSw); go_simp; try with_reducible rfl)
    simp only [Act.put, List.getElem_toArray, List.getElem_cons_zero, List.getElem_cons_succ, List.setIfInBounds_toArray, List.set_cons_zero, List.set_cons_succ]
    refine wpAnyH_take (i := 24) (v := ?_) rfl (by kernel_rfl) (by kernel_rfl) (by kernel_rfl) (fun _ _ _ h => h) (Or.inl ⟨by rfl, ?_⟩) (by assumption) ?_
    rotate_left
    · (intro w hSw; (try dsimp only at hSw); go_simp; try with_reducible rfl)
    simp only [Act.put, List.getElem_toArray, List.getElem_cons_zero, List.getElem_cons_succ, List.setIfInBounds_toArray, List.set_cons_zero, List.set_cons_succ]
    refine wpAnyH_take (i := 25) (v := ?_) rfl (by kernel_rfl) (by kernel_rfl) (by kernel_rfl) (fun _ _ _ h => h) (Or.inl ⟨by rfl, ?_⟩) (by assumption) ?_
    rotate_left
    · (intro w hSw; (try dsimp only at hSw); go_simp; try with_reducible rfl)
    simp only [Act.put, List.getElem_toArray, List.getElem_cons_zero, List.getElem_cons_succ, List.setIfInBounds_toArray, List.set_cons_zero, List.set_cons_succ]
    refine wpAnyH_take (i := 26) (v := .agg (cellsOf da).toArray) rfl (by kernel_rfl) (by kernel_rfl) (by kernel_rfl) (fun _ _ _ h => h) (yieldsIf_load_mid (by rfl) 24 (.tmp 6) rfl w.heap.size 0 rfl (cellsOf da) _ (fun _ h => h.2.1) Tryd.underlying24 rfl HIA.out) (by assumption) ?_
    simp only [Act.put, List.getElem_toArray, List.getElem_cons_zero, List.getElem_cons_succ, List.setIfInBounds_toArray, List.set_cons_zero, List.set_cons_succ]
    refine wpAnyH_take (i := 27) (v := .agg (cellsOf db).toArray) rfl (by kernel_rfl) (by kernel_rfl) (by kernel_rfl) (fun _ _ _ h => h) (yieldsIf_load_mid (by rfl) 24 (.tmp 7) rfl (w.heap.size + 1) 0 rfl (cellsOf db) _ (fun _ h => h.2.2) Tryd.underlying24 rfl HIB.out) (by assumption) ?_
    simp only [Act.put, List.getElem_toArray, List.getElem_cons_zero, List.getElem_cons_succ, List.setIfInBounds_toArray, List.set_cons_zero, List.set_cons_succ]
    refine wpAnyH_take (i := 29) (v := .agg (cellsOf da).toArray) rfl (by kernel_rfl) (by kernel_rfl) (by kernel_rfl) (fun _ _ _ h => h) (yieldsIf_load_mid (by rfl) 24 (.tmp 6) rfl w.heap.size 0 rfl (cellsOf da) _ (fun _ h => h.2.1) Tryd.underlying24 rfl HIA.out) (by assumption) ?_
    simp only [Act.put, List.getElem_toArray, List.getElem_cons_zero, List.getElem_cons_succ, List.setIfInBounds_toArray, List.set_cons_zero, List.set_cons_succ]
    refine wpAnyH_take (i := 30) (v := .agg (cellsOf db).toArray) rfl (by kernel_rfl) (by kernel_rfl) (by kernel_rfl) (fun _ _ _ h => h) (yieldsIf_load_mid (by rfl) 24 (.tmp 7) rfl (w.heap.size + 1) 0 rfl (cellsOf db) _ (fun _ h => h.2.2) Tryd.underlying24 rfl HIB.out) (by assumption) ?_
    simp only [Act.put, List.getElem_toArray, List.getElem_cons_zero, List.getElem_cons_succ, List.setIfInBounds_toArray, List.set_cons_zero, List.set_cons_succ]
    refine wpAnyH_ready (rs := [28]) (by kernel_rfl) (by simp) ?_
    refine AllReadyH.cons rfl (fun K hK => ?_) AllReadyH.nil
    go_simp
    refine (C7.out _ HC6.out).mono ?_
    rintro e y7 ⟨rfl, hy7⟩
    have HC7 : Hid (Below w3.heap.size w3 y7) := HC6.out.trans (hy7.mono HC6.out.size)
    clear hy7
    try unfold dv
    go_wp2_with fail
    refine hK.out _ _ (HS.out _ HC7.out) (fun hHeld2 => ?_)
    clear hK K
    refine wpAnyH_ready (rs := [31]) (by kernel_rfl) (by simp) ?_
    refine AllReadyH.cons rfl (fun K hK => ?_) AllReadyH.nil
    go_simp
    refine (C8.out _ HC7.out).mono ?_
    rintro e y8 ⟨rfl, hy8⟩
    have HC8 : Hid (Below w3.heap.size w3 y8) := HC7.out.trans (hy8.mono HC7.out.size)
    clear hy8
    try unfold dv
    go_wp2_with fail
    refine hK.out _ _ (HS.out _ HC8.out) (fun hHeld2 => ?_)
    clear hK K
    refine wpAnyH_take (i := 32) (v := ?_) rfl (by kernel_rfl) (by kernel_rfl) (by kernel_rfl) (fun _ _ _ h => h) (Or.inl ⟨by rfl, ?_⟩) (by assumption) ?_
    rotate_left
    · (intro w hSw; (try dsimp only at hSw); go_simp; try with_reducible rfl)
    simp only [Act.put, List.getElem_toArray, List.getElem_cons_zero, List.getElem_cons_succ, List.setIfInBounds_toArray, List.set_cons_zero, List.set_cons_succ]
    refine wpAnyH_take (i := 33) (v := ?_) rfl (by kernel_rfl) (by kernel_rfl) (by kernel_rfl) (fun _ _ _ h => h) (Or.inl ⟨by rfl, ?_⟩) (by assumption) ?_
    rotate_left
    · (intro w hSw; (try dsimp only at hSw); go_simp; try with_reducible rfl)
    simp only [Act.put, List.getElem_toArray, List.getElem_cons_zero, List.getElem_cons_succ, List.setIfInBounds_toArray, List.set_cons_zero, List.set_cons_succ]
    refine wpAnyH_done (by kernel_rfl) ?_ _
    clear hS hHeld2
    go_wp2_with fail
    go_meet
    exact ⟨rfl, HC8⟩
  case rest =>
    obtain ⟨rfl, HBX⟩ := hcut
    clear C1 C2 C3 C4 C5 C6 C7 C8 heq1 heq2 heq3 heq4 hg
    go_wp2_with fail
    go_loopw [12] (fun s12 wr => ∃ (k : Nat), s12 = .int .i64 k ∧ k ≤ n ∧ Hid (Below w3.heap.size w3 wr)) (fun x _ => n - (intOf x).toNat)
    case atStart => exact ⟨0, rfl, Nat.zero_le _, HBX⟩
    case round =>
      obtain ⟨k, rfl, hk, HBE⟩ := hrel
      by_cases hlt : k < n
      case neg =>
        have hkz : ¬ (k : Int) < (n : Int) := by omega
        have HSTL : Hid (Calls Tryd.prog 32 #[.slice ao n c, .slice aoS n cS] wr fun e w' => e = .returned (.bool true) ∧ Below wr.heap.size wr w') := still_any ao n c ls aoS cS wr (HLV3.out wr HBE.out) (HST3.out wr HBE.out) HN1.out
        clear hk hlt
        go_wp2_with fail
        refine Calls.mono HSTL.out ?_
        rintro e wz ⟨rfl, hbz⟩
        have HBZ : Hid (Below w3.heap.size w3 wz) := HBE.out.trans (hbz.mono HBE.out.size)
        clear hbz
        go_wp2_with fail
        go_ret
        exact ⟨rfl, HBW.out _ HBZ.out⟩
      case pos =>
        have hkz : (k : Int) < (n : Int) := by omega
        obtain ⟨b1, o1, rfl, -⟩ := (HLV3.out w3 (Below.refl _ _)).2.2.2 (by omega)
        obtain ⟨b2, o2, rfl, -⟩ := (HST3.out w3 (Below.refl _ _)).2.2.2 (by omega)
        have HAT : Hid (∀ W, Below w3.heap.size w3 W → LeavesAt W b1 o1 ls ∧ ∀ i s, (strs ls)[i]? = some s → W.cell? ⟨b2, o2 + i, none⟩ = some (.string s)) := fun W hW => by
          obtain ⟨b', o', h1, h2⟩ := (HLV3.out W hW).2.2.2 (by omega)
          cases h1
          obtain ⟨b', o', h1, h3⟩ := (HST3.out W hW).2.2.2 (by omega)
          cases h1
          exact ⟨h2, h3⟩
        obtain ⟨⟨pao, pn, pc, pb⟩, HP⟩ : ∃ p, Hid (ls[k]? = some p) := ⟨_, List.getElem?_eq_getElem (by have := HLV.out.1; omega)⟩
        obtain ⟨q, HQ⟩ : ∃ q : ByteArray, Hid ((⟨pb.toArray⟩ : ByteArray) = q) := ⟨_, rfl⟩
        have HQB : Hid (strB q = pb) := by show _ = _; rw [← HQ.out]; exact strB_mk pb
        have HQS : Hid (q.size ≤ 1000) := HSZ.out q (by rw [← HQ.out]; exact List.mem_of_getElem? (strs_at HP.out))
        obtain ⟨d1, HD1⟩ : ∃ d, Hid (leafD z pb = d) := ⟨_, rfl⟩
        obtain ⟨d2, HD2⟩ : ∃ d, Hid (leafD 256 pb = d) := ⟨_, rfl⟩
        have heq1 := eq_same d1 (by rw [← HD1.out]; exact leafD_length _ _)
        have heq2 := eq_same d2 (by rw [← HD2.out]; exact leafD_length _ _)
        have hg := guard24
        have C1 : Hid (∀ W, Below wr.heap.size wr W → Calls Tryd.prog 29 #[.agg #[.int .i64 z], .slice pao pn pc] W fun e w' => e = .returned (dv d1) ∧ Below W.heap.size W w') := fun W hW => by
          have hW3 := HBE.out.trans (hW.mono HBE.out.size)
          obtain ⟨h1, h2, h3, h4⟩ := (HAT.out W hW3).1 k _ HP.out
          have h := leaf_any z pao pn pc pb W h2 h4 h3 (HKB3.out W hW3).1 (HKB3.out W hW3).2 HZ.out
          rw [HD1.out] at h; exact h
        have C2 : Hid (∀ W, Below wr.heap.size wr W → Calls Tryd.prog 30 #[.int .i64 z, .string q] W fun e w' => e = .returned (dv d1) ∧ Below W.heap.size W w') := fun W _ => by
          have h := refLeaf_any z q W HQS.out HZ.out
          rw [HQB.out, HD1.out] at h; exact h
        have C3 : Hid (∀ W, Below wr.heap.size wr W → Calls Tryd.prog 31 #[.slice pao pn pc] W fun e w' => e = .returned (dv d2) ∧ Below W.heap.size W w') := fun W hW => by
          have hW3 := HBE.out.trans (hW.mono HBE.out.size)
          obtain ⟨h1, h2, h3, h4⟩ := (HAT.out W hW3).1 k _ HP.out
          have h := leafN_any pao pn pc pb W h2 h4 h3 (HKB3.out W hW3).1 (HKB3.out W hW3).2
          rw [HD2.out] at h; exact h
        have C4 : Hid (∀ W, Below wr.heap.size wr W → Calls Tryd.prog 30 #[.int .i64 256, .string q] W fun e w' => e = .returned (dv d2) ∧ Below W.heap.size W w') := fun W _ => by
          have h := refLeaf_any 256 q W HQS.out z256
          rw [HQB.out, HD2.out] at h; exact h
        have HSR : Hid (∀ W, Below wr.heap.size wr W → W.cell? ⟨wT.heap.size, 0, none⟩ = some (.int .i64 z) ∧ W.cell? ⟨b1, o1 + k, none⟩ = some (.slice pao pn pc) ∧ W.cell? ⟨b2, o2 + k, none⟩ = some (.string q)) := fun W hW => by
          have hW3 := HBE.out.trans (hW.mono HBE.out.size)
          exact ⟨HCZ.out W hW3, ((HAT.out W hW3).1 k _ HP.out).1, by rw [← HQ.out]; exact (HAT.out W hW3).2 k _ (strs_at HP.out)⟩
        clear hk
        go_upto_region 10 with fail
        go_cut [85] (fun s85 wx => s85 = .bool false ∧ Hid (Below wr.heap.size wr wx))
        case first =>
          refine wp_region_held_drew (S := fun W => W.cell? ⟨wT.heap.size, 0, none⟩ = some (.int .i64 z) ∧ W.cell? ⟨b1, o1 + k, none⟩ = some (.slice pao pn pc) ∧ W.cell? ⟨b2, o2 + k, none⟩ = some (.string q)) (by kernel_rfl) (HSR.out _ (Below.drew (Below.refl _ _))) (fun hS => ?_)
          refine wpAnyH_take (i := 0) (v := ?_) rfl (by kernel_rfl) (by kernel_rfl) (by kernel_rfl) (fun _ _ _ h => h) (Or.inl ⟨by rfl, ?_⟩) (by assumption) ?_
          rotate_left
          · (intro w hSw; (try dsimp only at hSw); go_simp; try with_reducible rfl)
          simp only [Act.put, List.getElem_toArray, List.getElem_cons_zero, List.setIfInBounds_toArray, List.set_cons_zero, List.set_cons_succ]
          refine wpAnyH_take (i := 1) (v := ?_) rfl (by kernel_rfl) (by kernel_rfl) (by kernel_rfl) (fun _ _ _ h => h) (Or.inl ⟨by rfl, ?_⟩) (by assumption) ?_
          rotate_left
          · (intro w hSw; (try dsimp only at hSw); go_simp; try with_reducible rfl)
          simp only [Act.put, List.getElem_toArray, List.getElem_cons_zero, List.getElem_cons_succ, List.setIfInBounds_toArray, List.set_cons_zero, List.set_cons_succ]
          refine wpAnyH_take (i := 2) (v := ?_) rfl (by kernel_rfl) (by kernel_rfl) (by kernel_rfl) (fun _ _ _ h => h) (Or.inl ⟨by rfl, ?_⟩) (by assumption) ?_
          rotate_left
          · (intro w hSw; (try dsimp only at hSw); go_simp; try with_reducible rfl)
          simp only [Act.put, List.getElem_toArray, List.getElem_cons_zero, List.getElem_cons_succ, List.setIfInBounds_toArray, List.set_cons_zero, List.set_cons_succ]
          refine wpAnyH_take (i := 3) (v := ?_) rfl (by kernel_rfl) (by kernel_rfl) (by kernel_rfl) (fun _ _ _ h => h) (Or.inl ⟨by rfl, ?_⟩) (by assumption) ?_
          rotate_left
          · (intro w hSw; (try dsimp only at hSw); go_simp; try with_reducible rfl)
          simp only [Act.put, List.getElem_toArray, List.getElem_cons_zero, List.getElem_cons_succ, List.setIfInBounds_toArray, List.set_cons_zero, List.set_cons_succ]
          refine wpAnyH_take (i := 4) (v := ?_) rfl (by kernel_rfl) (by kernel_rfl) (by kernel_rfl) (fun _ _ _ h => h) (Or.inl ⟨by rfl, ?_⟩) (by assumption) ?_
          rotate_left
          · (intro w hSw; (try dsimp only at hSw); go_simp; try with_reducible rfl)
          simp only [Act.put, List.getElem_toArray, List.getElem_cons_zero, List.getElem_cons_succ, List.setIfInBounds_toArray, List.set_cons_zero, List.set_cons_succ]
          refine wpAnyH_take (i := 6) (v := ?_) rfl (by kernel_rfl) (by kernel_rfl) (by kernel_rfl) (fun _ _ _ h => h) (Or.inl ⟨by rfl, ?_⟩) (by assumption) ?_
          rotate_left
          · (intro w hSw; (try dsimp only at hSw); go_simp; try with_reducible rfl)
          simp only [Act.put, List.getElem_toArray, List.getElem_cons_zero, List.getElem_cons_succ, List.setIfInBounds_toArray, List.set_cons_zero, List.set_cons_succ]
          refine wpAnyH_take (i := 7) (v := ?_) rfl (by kernel_rfl) (by kernel_rfl) (by kernel_rfl) (fun _ _ _ h => h) (Or.inl ⟨by rfl, ?_⟩) (by assumption) ?_
          rotate_left
          · (intro w hSw; (try dsimp only at hSw); go_simp; try with_reducible rfl)
          simp only [Act.put, List.getElem_toArray, List.getElem_cons_zero, List.getElem_cons_succ, List.setIfInBounds_toArray, List.set_cons_zero, List.set_cons_succ]
          refine wpAnyH_take (i := 8) (v := ?_) rfl (by kernel_rfl) (by kernel_rfl) (by kernel_rfl) (fun _ _ _ h => h) (Or.inl ⟨by rfl, ?_⟩) (by assumption) ?_
          rotate_left
          · (intro w hSw; (try dsimp only at hSw); go_simp; try with_reducible rfl)
          simp only [Act.put, List.getElem_toArray, List.getElem_cons_zero, List.getElem_cons_succ, List.setIfInBounds_toArray, List.set_cons_zero, List.set_cons_succ]
          refine wpAnyH_take (i := 9) (v := ?_) rfl (by kernel_rfl) (by kernel_rfl) (by kernel_rfl) (fun _ _ _ h => h) (Or.inl ⟨by rfl, ?_⟩) (by assumption) ?_
          rotate_left
          · (intro w hSw; (try dsimp only at hSw); go_simp; try with_reducible rfl)
          simp only [Act.put, List.getElem_toArray, List.getElem_cons_zero, List.getElem_cons_succ, List.setIfInBounds_toArray, List.set_cons_zero, List.set_cons_succ]
          refine wpAnyH_take (i := 10) (v := ?_) rfl (by kernel_rfl) (by kernel_rfl) (by kernel_rfl) (fun _ _ _ h => h) (Or.inl ⟨by rfl, ?_⟩) (by assumption) ?_
          rotate_left
          · (intro w hSw; (try dsimp only at hSw); go_simp; try with_reducible rfl)
          simp only [Act.put, List.getElem_toArray, List.getElem_cons_zero, List.getElem_cons_succ, List.setIfInBounds_toArray, List.set_cons_zero, List.set_cons_succ]
          refine wpAnyH_ready (rs := [5]) (by kernel_rfl) (by simp) ?_
          refine AllReadyH.cons rfl (fun K hK => ?_) AllReadyH.nil
          go_simp
          refine (C1.out _ (Below.drew (Below.refl wr.heap.size wr))).mono ?_
          rintro e y1 ⟨rfl, hy1⟩
          have HC1 : Hid (Below wr.heap.size wr y1) := (Below.drew (Below.refl wr.heap.size wr)).trans (hy1.mono (Nat.le_refl _))
          clear hy1
          try unfold dv
          go_wp2_with fail
          refine hK.out _ _ (HSR.out _ HC1.out) (fun hHeld2 => ?_)
          clear hK K
          refine wpAnyH_ready (rs := [11]) (by kernel_rfl) (by simp) ?_
          refine AllReadyH.cons rfl (fun K hK => ?_) AllReadyH.nil
          go_simp
          refine (C2.out _ HC1.out).mono ?_
          rintro e y2 ⟨rfl, hy2⟩
          have HC2 : Hid (Below wr.heap.size wr y2) := HC1.out.trans (hy2.mono HC1.out.size)
          clear hy2
          try unfold dv
          go_wp2_with fail
          refine hK.out _ _ (HSR.out _ HC2.out) (fun hHeld2 => ?_)
          clear hK K
          refine wpAnyH_take (i := 12) (v := ?_) rfl (by kernel_rfl) (by kernel_rfl) (by kernel_rfl) (fun _ _ _ h => h) (Or.inl ⟨by rfl, ?_⟩) (by assumption) ?_
          rotate_left
          · (intro w hSw; (try dsimp only at hSw); go_simp; try with_reducible rfl)
          simp only [Act.put, List.getElem_toArray, List.getElem_cons_zero, List.getElem_cons_succ, List.setIfInBounds_toArray, List.set_cons_zero, List.set_cons_succ]
          refine wpAnyH_take (i := 13) (v := ?_) rfl (by kernel_rfl) (by kernel_rfl) (by kernel_rfl) (fun _ _ _ h => h) (Or.inl ⟨by rfl, ?_⟩) (by assumption) ?_
          rotate_left
          · (intro w hSw; (try dsimp only at hSw); go_simp; try with_reducible rfl)
          simp only [Act.put, List.getElem_toArray, List.getElem_cons_zero, List.getElem_cons_succ, List.setIfInBounds_toArray, List.set_cons_zero, List.set_cons_succ]
          refine wpAnyH_take (i := 14) (v := ?_) rfl (by kernel_rfl) (by kernel_rfl) (by kernel_rfl) (fun _ _ _ h => h) (Or.inl ⟨by rfl, ?_⟩) (by assumption) ?_
          rotate_left
          · (intro w hSw; (try dsimp only at hSw); go_simp; try with_reducible rfl)
          simp only [Act.put, List.getElem_toArray, List.getElem_cons_zero, List.getElem_cons_succ, List.setIfInBounds_toArray, List.set_cons_zero, List.set_cons_succ]
          refine wpAnyH_take (i := 15) (v := ?_) rfl (by kernel_rfl) (by kernel_rfl) (by kernel_rfl) (fun _ _ _ h => h) (Or.inl ⟨by rfl, ?_⟩) (by assumption) ?_
          rotate_left
          · (intro w hSw; (try dsimp only at hSw); go_simp; try with_reducible rfl)
          simp only [Act.put, List.getElem_toArray, List.getElem_cons_zero, List.getElem_cons_succ, List.setIfInBounds_toArray, List.set_cons_zero, List.set_cons_succ]
          refine wpAnyH_take (i := 16) (v := ?_) rfl (by kernel_rfl) (by kernel_rfl) (by kernel_rfl) (fun _ _ _ h => h) (Or.inl ⟨by rfl, ?_⟩) (by assumption) ?_
          rotate_left
          · (intro w hSw; (try dsimp only at hSw); go_simp; try with_reducible rfl)
          simp only [Act.put, List.getElem_toArray, List.getElem_cons_zero, List.getElem_cons_succ, List.setIfInBounds_toArray, List.set_cons_zero, List.set_cons_succ]
          refine wpAnyH_take (i := 17) (v := ?_) rfl (by kernel_rfl) (by kernel_rfl) (by kernel_rfl) (fun _ _ _ h => h) (Or.inl ⟨by rfl, ?_⟩) (by assumption) ?_
          rotate_left
          · (intro w hSw; (try dsimp only at hSw); go_simp; try with_reducible rfl)
          simp only [Act.put, List.getElem_toArray, List.getElem_cons_zero, List.getElem_cons_succ, List.setIfInBounds_toArray, List.set_cons_zero, List.set_cons_succ]
          refine wpAnyH_take (i := 19) (v := ?_) rfl (by kernel_rfl) (by kernel_rfl) (by kernel_rfl) (fun _ _ _ h => h) (Or.inl ⟨by rfl, ?_⟩) (by assumption) ?_
          rotate_left
          · (intro w hSw; (try dsimp only at hSw); go_simp; try with_reducible rfl)
          simp only [Act.put, List.getElem_toArray, List.getElem_cons_zero, List.getElem_cons_succ, List.setIfInBounds_toArray, List.set_cons_zero, List.set_cons_succ]
          refine wpAnyH_take (i := 20) (v := ?_) rfl (by kernel_rfl) (by kernel_rfl) (by kernel_rfl) (fun _ _ _ h => h) (Or.inl ⟨by rfl, ?_⟩) (by assumption) ?_
          rotate_left
          · (intro w hSw; (try dsimp only at hSw); go_simp; try with_reducible rfl)
          simp only [Act.put, List.getElem_toArray, List.getElem_cons_zero, List.getElem_cons_succ, List.setIfInBounds_toArray, List.set_cons_zero, List.set_cons_succ]
          refine wpAnyH_take (i := 21) (v := ?_) rfl (by kernel_rfl) (by kernel_rfl) (by kernel_rfl) (fun _ _ _ h => h) (Or.inl ⟨by rfl, ?_⟩) (by assumption) ?_
          rotate_left
          · (intro w hSw; (try dsimp only at hSw); go_simp; try with_reducible rfl)
          simp only [Act.put, List.getElem_toArray, List.getElem_cons_zero, List.getElem_cons_succ, List.setIfInBounds_toArray, List.set_cons_zero, List.set_cons_succ]
          refine wpAnyH_take (i := 22) (v := ?_) rfl (by kernel_rfl) (by kernel_rfl) (by kernel_rfl) (fun _ _ _ h => h) (Or.inl ⟨by rfl, ?_⟩) (by assumption) ?_
          rotate_left
          · (intro w hSw; (try dsimp only at hSw); go_simp; try with_reducible rfl)
          simp only [Act.put, List.getElem_toArray, List.getElem_cons_zero, List.getElem_cons_succ, List.setIfInBounds_toArray, List.set_cons_zero, List.set_cons_succ]
          refine wpAnyH_ready (rs := [18]) (by kernel_rfl) (by simp) ?_
          refine AllReadyH.cons rfl (fun K hK => ?_) AllReadyH.nil
          go_simp
          refine (C3.out _ HC2.out).mono ?_
          rintro e y3 ⟨rfl, hy3⟩
          have HC3 : Hid (Below wr.heap.size wr y3) := HC2.out.trans (hy3.mono HC2.out.size)
          clear hy3
          try unfold dv
          go_wp2_with fail
          refine hK.out _ _ (HSR.out _ HC3.out) (fun hHeld2 => ?_)
          clear hK K
          refine wpAnyH_ready (rs := [23]) (by kernel_rfl) (by simp) ?_
          refine AllReadyH.cons rfl (fun K hK => ?_) AllReadyH.nil
          go_simp
          refine (C4.out _ HC3.out).mono ?_
          rintro e y4 ⟨rfl, hy4⟩
          have HC4 : Hid (Below wr.heap.size wr y4) := HC3.out.trans (hy4.mono HC3.out.size)
          clear hy4
          try unfold dv
          go_wp2_with fail
          refine hK.out _ _ (HSR.out _ HC4.out) (fun hHeld2 => ?_)
          clear hK K
          refine wpAnyH_take (i := 24) (v := ?_) rfl (by kernel_rfl) (by kernel_rfl) (by kernel_rfl) (fun _ _ _ h => h) (Or.inl ⟨by rfl, ?_⟩) (by assumption) ?_
          rotate_left
          · (intro w hSw; (try dsimp only at hSw); go_simp; try with_reducible rfl)
          simp only [Act.put, List.getElem_toArray, List.getElem_cons_zero, List.getElem_cons_succ, List.setIfInBounds_toArray, List.set_cons_zero, List.set_cons_succ]
          refine wpAnyH_take (i := 25) (v := ?_) rfl (by kernel_rfl) (by kernel_rfl) (by kernel_rfl) (fun _ _ _ h => h) (Or.inl ⟨by rfl, ?_⟩) (by assumption) ?_
          rotate_left
          · (intro w hSw; (try dsimp only at hSw); go_simp; try with_reducible rfl)
          simp only [Act.put, List.getElem_toArray, List.getElem_cons_zero, List.getElem_cons_succ, List.setIfInBounds_toArray, List.set_cons_zero, List.set_cons_succ]
          refine wpAnyH_done (by kernel_rfl) ?_ _
          clear hS hHeld2
          go_wp2_with fail
          go_meet
          exact ⟨rfl, HC4⟩
        case rest =>
          obtain ⟨rfl, HBY⟩ := hcut
          have HBZ : Hid (Below w3.heap.size w3 wc) := HBE.out.trans (HBY.out.mono HBE.out.size)
          have hn1 := HN70.out
          clear C1 C2 C3 C4 heq1 heq2 hg
          go_wp2_with fail
          refine ⟨⟨k + 1, rfl, by omega, HBZ⟩, ?_⟩
          simp [intOf]
          omega
end Go.Proofs.YtaebpnednhkfhaaDoor
