/-
  What marlstonelaw02.SumOf answers: a contract over this translation.
-/
import Derived.Test.YtdlkaeegcagkpaaDoorRefKept
import Derived.Test.YtdlkaeegcagkpaaDoorKeptCap
namespace Go.Proofs.YtdlkaeegcagkpaaDoor
open Go.RowKit
set_option maxRecDepth 100000 in
set_option maxHeartbeats 1000000 in
theorem of_walk (ao : Option Addr) (n cap : Nat) (bs : List UInt8) (z : Int) (w : World) (hb : Bytes w ao n bs) (hnil : ao = none → cap = 0) (hnc : n ≤ cap) (hcap : cap ≤ 140737488351232) (hK : WW w 0 ks) (h0 : 0 < w.heap.size)
    (hz1 : -9223372036854775808 ≤ z) (hz2 : z ≤ 9223372036854775807) :
    Calls Tryd.prog 3 #[.slice ao n cap, .int .i64 z] w fun e w' => e = .returned (.bool true) ∧ Below w.heap.size w w' := by
  obtain ⟨m, hm⟩ : ∃ m, m = min n 2000 := ⟨_, rfl⟩
  have hmin : min (n : Int) 2000 = (m : Int) := by omega
  have hmn : m ≤ n := by omega
  have hm2 : m ≤ 2000 := by omega
  clear hm
  have hbm := bytes_take hb m hmn
  obtain ⟨ms, hms⟩ : ∃ ms, bs.take m = ms := ⟨_, rfl⟩
  rw [hms] at hbm
  clear hms hb
  have hml := hbm.1
  obtain ⟨q, HQ⟩ : ∃ q : ByteArray, Hid (q = ⟨ms.toArray⟩) := ⟨_, rfl⟩
  have hqB : strB q = ms := by rw [HQ.out]; exact strB_mk ms
  have hqs : q.size ≤ 2000 := by rw [← strB_length, hqB, hml]; exact hm2
  have RO := fun w => refOf_any q w hqs
  have RK := fun w => refKept_any q z w hqs hz1 hz2
  rw [hqB] at RO RK
  obtain ⟨D, HD⟩ : ∃ D, Hid (D = shaB ms) := ⟨_, rfl⟩
  have hDl : D.length = 32 := by rw [HD.out]; exact shaB_length _
  rw [← HD.out] at RO RK
  obtain ⟨K, HKK⟩ : ∃ K, Hid (K = keptB D (min (max z 0) 256).toNat 32) := ⟨_, rfl⟩
  have hKl : K.length = 32 := by rw [HKK.out, keptB_length, hDl]
  rw [← HKK.out] at RK
  have HRO : Hid (_) := RO
  have HRK : Hid (_) := RK
  have HS : Hid (∀ w' ao' c', Bytes w' ao' m ms → (convert 22 9 (.slice ao' m c')).run Tryd.prog w' = .ok (.string q) w') := fun w' ao' c' h => by rw [HQ.out]; exact str_bytes c' h
  clear RO RK hqB hml
  have hn1 : (0 : Int) ≤ (m : Int) := by omega
  have hn2 : (m : Int) ≤ (cap : Int) := by omega
  go_enter Tryd.func3, Tryd.ntmps3
  go_wp2_with fail
  refine (shown_any _ hK h0).mono ?_
  rintro e w1 ⟨rfl, hbel1⟩
  have hs1 := hbel1.size
  have HK1 : Hid (WW w1 0 ks) := hK.below hbel1 h0
  have hb1 := bytes_kept hbm hbel1 (Nat.le_refl _)
  have HB1 : Hid (Bytes w1 ao m ms) := hb1
  have HB2 : Hid (Bytes (w1.alloc (.cells #[] 5)) ao m ms) := bytes_kept hb1 (bel_alloc w1 (.cells #[] 5)) (Nat.le_refl _)
  have HO1 : Hid ((w1.alloc (.cells #[] 5)).ownsRow w1.heap.size 5 1 (.slice (some ⟨w1.heap.size, 0, none⟩) 0 0) 0 (cellsOf [])) := own_empty w1
  clear hK hbm hb1
  go_wp2_with (at_builtin; refine wpList_append_bytes _ rfl (.tmp 15) (.tmp 16) rfl w1.heap.size _ 0 [] rfl HO1.out (by simp) ao m cap ms rfl HB2.out hnil (by omega) ?_)
  intro v2 w2 hown2 hbel2
  rw [HB1.out.1] at hown2
  obtain ⟨bo, bc, hv2, hb2, y1, y2, y3, y4, y5⟩ := own_bytes hown2
  have hbc : bc ≤ 9223372036854775807 := by unfold maxLen at y3; omega
  subst hv2
  have hbel12 : Below w1.heap.size w1 w2 := (bel_alloc w1 _).trans hbel2
  have hs2 := hbel12.size
  have HBO : Hid (Bytes w2 bo m ms) := hb2
  have HB3 : Hid (Bytes w2 ao m ms) := bytes_kept HB1.out hbel12 (Nat.le_refl _)
  have HK2 : Hid (WW w2 0 ks) := HK1.out.below hbel12 (by omega)
  have hbw2 : Below w.heap.size w w2 := hbel1.trans (hbel12.mono (by omega))
  have hmc : m ≤ bc := y2
  clear hown2 hbel2 hbel12 hb2 y1 y2 y3 y4 y5 HO1 HB2 HB1 HK1 hbel1
  have HD1 : Hid ((cellsOf D).toArray.all (·.oneCell') = true) := all_oneCell_toArray (cellsOf_one _)
  have HDS : Hid ((Tryd.prog.info? 25).map (·.size) = some (cellsOf D).toArray.size) := by show _ = _; rw [size25, List.size_toArray, cellsOf_length, hDl]
  have HZD : Hid ((cellsOf (List.replicate 32 0)).toArray.size = (cellsOf D).toArray.size) := by show _ = _; rw [List.size_toArray, List.size_toArray, cellsOf_length, cellsOf_length, hDl]; rfl
  have HKO : Hid ((cellsOf K).toArray.all (·.oneCell') = true) := all_oneCell_toArray (cellsOf_one _)
  have HKS : Hid ((Tryd.prog.info? 25).map (·.size) = some (cellsOf K).toArray.size) := by show _ = _; rw [size25, List.size_toArray, cellsOf_length, hKl]
  have HZK : Hid ((cellsOf (List.replicate 32 0)).toArray.size = (cellsOf K).toArray.size) := by show _ = _; rw [List.size_toArray, List.size_toArray, cellsOf_length, cellsOf_length, hKl]; rfl
  go_wp2_with fail
  refine (of_cap bo m bc ms w2 HBO.out hmc hbc (by omega) HK2.out (by omega)).mono ?_
  rintro e w3 ⟨rfl, hbel3⟩
  rw [← HD.out]
  have hs3 := hbel3.size
  go_wp2_with (refine wpList_store_to rfl 25 (.tmp 7) (.tmp 19) rfl w3.heap.size (cellsOf D).toArray rfl rfl 25 (cellsOf (List.replicate 32 0)).toArray (heap_alloc_new _ _) HDS.out HZD.out HD1.out ?_)
  intro w4 hblk4 hchg4
  have hbel34 : Below w3.heap.size w3 w4 := (bel_alloc _ _).trans (hchg4.below (Nat.le_refl _) (by simp))
  have hbel24 : Below w2.heap.size w2 w4 := hbel3.trans (hbel34.mono (by omega))
  have hs4 : w3.heap.size + 1 ≤ w4.heap.size := by have := hchg4.size; simpa using this
  have HBO4 : Hid (Bytes w4 bo m ms) := bytes_kept HBO.out hbel24 (Nat.le_refl _)
  have HB4 : Hid (Bytes w4 ao m ms) := bytes_kept HB3.out hbel24 (Nat.le_refl _)
  have HK4 : Hid (WW w4 0 ks) := HK2.out.below hbel24 (by omega)
  have hbw4 : Below w.heap.size w w4 := hbw2.trans (hbel24.mono (by omega))
  have HBD : Hid (w4.heap[w3.heap.size]? = some (.cells (cellsOf D).toArray 25)) := hblk4
  clear hblk4 hchg4 hbel34 hbel24 hbel3 hbw2 HBO HB3 HK2 HD1 HDS HZD
  generalize hd1 : w3.heap.size = d1 at *
  go_wp2_with fail
  refine (kept_cap bo m bc ms z w4 HBO4.out hmc hbc (by omega) HK4.out (by omega) hz1 hz2).mono ?_
  rintro e w5 ⟨rfl, hbel5⟩
  rw [← HD.out, ← HKK.out]
  have hs5 := hbel5.size
  go_wp2_with (refine wpList_store_to rfl 25 (.tmp 8) (.tmp 22) rfl w5.heap.size (cellsOf K).toArray rfl rfl 25 (cellsOf (List.replicate 32 0)).toArray (heap_alloc_new _ _) HKS.out HZK.out HKO.out ?_)
  intro w6 hblk6 hchg6
  have hbel56 : Below w5.heap.size w5 w6 := (bel_alloc _ _).trans (hchg6.below (Nat.le_refl _) (by simp))
  have hbel46 : Below w4.heap.size w4 w6 := hbel5.trans (hbel56.mono (by omega))
  have hs6 : w5.heap.size + 1 ≤ w6.heap.size := by have := hchg6.size; simpa using this
  have HBO6 : Hid (Bytes w6 bo m ms) := bytes_kept HBO4.out hbel46 (Nat.le_refl _)
  have HB6 : Hid (Bytes w6 ao m ms) := bytes_kept HB4.out hbel46 (Nat.le_refl _)
  have hbw6 : Below w.heap.size w w6 := hbw4.trans (hbel46.mono (by omega))
  have HBD6 : Hid (w6.heap[d1]? = some (.cells (cellsOf D).toArray 25)) := (hbel46.block d1 (by omega)).trans HBD.out
  have HBK6 : Hid (w6.heap[w5.heap.size]? = some (.cells (cellsOf K).toArray 25)) := hblk6
  clear hblk6 hchg6 hbel56 hbel46 hbel5 hbw4 HBO4 HB4 HK4 HBD HKO HKS HZK
  generalize hd2 : w5.heap.size = d2 at *
  generalize hq6 : w6.heap.size = q6 at *
  have hu := Tryd.underlying25
  have hiD : (Tryd.prog.info? 25).map (·.size) = some (cellsOf D).length := by rw [size25, cellsOf_length, hDl]
  have hiK : (Tryd.prog.info? 25).map (·.size) = some (cellsOf K).length := by rw [size25, cellsOf_length, hKl]
  have hg25 := guard25
  have heqD : ∀ w, (Op.equalIn 10000 25 (.agg (cellsOf D).toArray) (.agg (cellsOf D).toArray)).run Tryd.prog w = .ok true w := fun w =>
    (run_equalIn_bytes w 9998 25 5 32 Tryd.underlying25 Tryd.underlying5 sizeOf5 D D hDl hDl).trans (by simp)
  have heqK : ∀ w, (Op.equalIn 10000 25 (.agg (cellsOf K).toArray) (.agg (cellsOf K).toArray)).run Tryd.prog w = .ok true w := fun w =>
    (run_equalIn_bytes w 9998 25 5 32 Tryd.underlying25 Tryd.underlying5 sizeOf5 K K hKl hKl).trans (by simp)
  have KEEP : Hid (∀ w' w'', ((convert 22 9 (.slice ao m cap)).run Tryd.prog w' = .ok (.string q) w' ∧ (convert 22 9 (.slice bo m bc)).run Tryd.prog w' = .ok (.string q) w' ∧ w'.rangeAt d1 0 (cellsOf D) ∧ w'.rangeAt d2 0 (cellsOf K) ∧ Below q6 w6 w') → Below w'.heap.size w' w'' → ((convert 22 9 (.slice ao m cap)).run Tryd.prog w'' = .ok (.string q) w'' ∧ (convert 22 9 (.slice bo m bc)).run Tryd.prog w'' = .ok (.string q) w'' ∧ w''.rangeAt d1 0 (cellsOf D) ∧ w''.rangeAt d2 0 (cellsOf K) ∧ Below q6 w6 w'')) := by
    rintro w' w'' ⟨_, _, k3, k4, k5⟩ hb
    have h9 := k5.size
    have hb6 : Below q6 w6 w'' := k5.trans (hb.mono (by omega))
    exact ⟨HS.out _ _ _ (bytes_kept HB6.out hb6 (by omega)), HS.out _ _ _ (bytes_kept HBO6.out hb6 (by omega)), fun j v hv => by rw [hb.cell (p := ⟨d1, 0 + j, none⟩) (by simp only; omega)]; exact k3 j v hv, fun j v hv => by rw [hb.cell (p := ⟨d2, 0 + j, none⟩) (by simp only; omega)]; exact k4 j v hv, hb6⟩
  have hS6 : (convert 22 9 (.slice ao m cap)).run Tryd.prog w6.drew = .ok (.string q) w6.drew ∧ (convert 22 9 (.slice bo m bc)).run Tryd.prog w6.drew = .ok (.string q) w6.drew ∧ w6.drew.rangeAt d1 0 (cellsOf D) ∧ w6.drew.rangeAt d2 0 (cellsOf K) ∧ Below q6 w6 w6.drew :=
    ⟨HS.out _ _ _ (bytes_drew1 HB6.out), HS.out _ _ _ (bytes_drew1 HBO6.out), fun j v hv => by show w6.cell? _ = _; rw [Nat.zero_add, cell_of_row w6 d1 j _ _ _ HBD6.out]; simpa using hv, fun j v hv => by show w6.cell? _ = _; rw [Nat.zero_add, cell_of_row w6 d2 j _ _ _ HBK6.out]; simpa using hv, by rw [← hq6]; exact Below.drew (Below.refl _ _)⟩
  clear hDl hKl
  go_wp2_with fail
  refine wp_region_held_drew (S := fun w' => (convert 22 9 (.slice ao m cap)).run Tryd.prog w' = .ok (.string q) w' ∧ (convert 22 9 (.slice bo m bc)).run Tryd.prog w' = .ok (.string q) w' ∧ w'.rangeAt d1 0 (cellsOf D) ∧ w'.rangeAt d2 0 (cellsOf K) ∧ Below q6 w6 w') (by kernel_rfl) hS6 (fun hHeld => ?_)
  clear hHeld
  refine wpAnyH_take (i := 0) (v := ?_) rfl (by kernel_rfl) (by kernel_rfl) (by kernel_rfl) (fun _ _ _ h => h) (Or.inl ⟨by rfl, ?_⟩) (by assumption) ?_
  rotate_left
  · (intro w hSw; (try dsimp only at hSw); go_simp; try with_reducible rfl)
  simp only [Act.put, List.getElem_toArray, List.getElem_cons_zero, List.setIfInBounds_toArray, List.set_cons_zero, List.set_cons_succ]
  refine wpAnyH_take (i := 1) (v := ?_) rfl (by kernel_rfl) (by kernel_rfl) (by kernel_rfl) (fun _ _ _ h => h) (Or.inl ⟨by rfl, ?_⟩) (by assumption) ?_
  rotate_left
  · (intro w hSw; (try dsimp only at hSw); go_simp; try with_reducible rfl)
  simp only [Act.put, List.getElem_toArray, List.getElem_cons_zero, List.getElem_cons_succ, List.setIfInBounds_toArray, List.set_cons_zero, List.set_cons_succ]
  refine wpAnyH_take (i := 2) (v := .agg (cellsOf D).toArray) rfl (by kernel_rfl) (by kernel_rfl) (by kernel_rfl) (fun _ _ _ h => h) (yieldsIf_load_mid (by rfl) 25 (.tmp 7) rfl d1 0 rfl (cellsOf D) _ (fun _ h => h.2.2.1) hu rfl hiD) (by assumption) ?_
  simp only [Act.put, List.getElem_toArray, List.getElem_cons_zero, List.getElem_cons_succ, List.setIfInBounds_toArray, List.set_cons_zero, List.set_cons_succ]
  refine wpAnyH_take (i := 3) (v := ?_) rfl (by kernel_rfl) (by kernel_rfl) (by kernel_rfl) (fun _ _ _ h => h) (Or.inl ⟨by rfl, ?_⟩) (by assumption) ?_
  rotate_left
  · (intro w hSw; (try dsimp only at hSw); go_simp; try with_reducible rfl)
  simp only [Act.put, List.getElem_toArray, List.getElem_cons_zero, List.getElem_cons_succ, List.setIfInBounds_toArray, List.set_cons_zero, List.set_cons_succ]
  refine wpAnyH_take (i := 4) (v := ?_) rfl (by kernel_rfl) (by kernel_rfl) (by kernel_rfl) (fun _ _ _ h => h) (Or.inl ⟨by rfl, ?_⟩) (by assumption) ?_
  rotate_left
  · (intro w hSw; (try dsimp only at hSw); go_simp; try with_reducible rfl)
  simp only [Act.put, List.getElem_toArray, List.getElem_cons_zero, List.getElem_cons_succ, List.setIfInBounds_toArray, List.set_cons_zero, List.set_cons_succ]
  refine wpAnyH_ready (rs := [5]) (by kernel_rfl) (by simp) ?_
  refine AllReadyH.cons rfl (fun K hK => ?_) ?_
  rotate_left
  · exact AllReadyH.nil
  go_simp
  refine (HRO.out _).mono ?_
  rintro e w7 ⟨rfl, hbel7⟩
  have hS7 := KEEP.out _ _ hS6 hbel7
  clear hbel7 hS6
  go_simp
  refine hK.out _ _ hS7 (fun hHeld => ?_)
  clear hK K hHeld
  refine wpAnyH_take (i := 6) (v := ?_) rfl (by kernel_rfl) (by kernel_rfl) (by kernel_rfl) (fun _ _ _ h => h) (Or.inl ⟨by rfl, ?_⟩) (by assumption) ?_
  rotate_left
  · (intro w hSw; (try dsimp only at hSw); go_simp; try with_reducible rfl)
  simp only [Act.put, List.getElem_toArray, List.getElem_cons_zero, List.getElem_cons_succ, List.setIfInBounds_toArray, List.set_cons_zero, List.set_cons_succ]
  refine wpAnyH_take (i := 7) (v := ?_) rfl (by kernel_rfl) (by kernel_rfl) (by kernel_rfl) (fun _ _ _ h => h) (Or.inl ⟨by rfl, ?_⟩) (by assumption) ?_
  rotate_left
  · (intro w hSw; (try dsimp only at hSw); go_simp; try with_reducible rfl)
  simp only [Act.put, List.getElem_toArray, List.getElem_cons_zero, List.getElem_cons_succ, List.setIfInBounds_toArray, List.set_cons_zero, List.set_cons_succ]
  refine wpAnyH_take (i := 8) (v := ?_) rfl (by kernel_rfl) (by kernel_rfl) (by kernel_rfl) (fun _ _ _ h => h) (Or.inl ⟨by rfl, ?_⟩) (by assumption) ?_
  rotate_left
  · (intro w hSw; (try dsimp only at hSw); go_simp; try with_reducible rfl)
  simp only [Act.put, List.getElem_toArray, List.getElem_cons_zero, List.getElem_cons_succ, List.setIfInBounds_toArray, List.set_cons_zero, List.set_cons_succ]
  refine wpAnyH_take (i := 9) (v := .agg (cellsOf K).toArray) rfl (by kernel_rfl) (by kernel_rfl) (by kernel_rfl) (fun _ _ _ h => h) (yieldsIf_load_mid (by rfl) 25 (.tmp 8) rfl d2 0 rfl (cellsOf K) _ (fun _ h => h.2.2.2.1) hu rfl hiK) (by assumption) ?_
  simp only [Act.put, List.getElem_toArray, List.getElem_cons_zero, List.getElem_cons_succ, List.setIfInBounds_toArray, List.set_cons_zero, List.set_cons_succ]
  refine wpAnyH_take (i := 10) (v := ?_) rfl (by kernel_rfl) (by kernel_rfl) (by kernel_rfl) (fun _ _ _ h => h) (Or.inl ⟨by rfl, ?_⟩) (by assumption) ?_
  rotate_left
  · (intro w hSw; (try dsimp only at hSw); go_simp; try with_reducible rfl)
  simp only [Act.put, List.getElem_toArray, List.getElem_cons_zero, List.getElem_cons_succ, List.setIfInBounds_toArray, List.set_cons_zero, List.set_cons_succ]
  refine wpAnyH_take (i := 11) (v := ?_) rfl (by kernel_rfl) (by kernel_rfl) (by kernel_rfl) (fun _ _ _ h => h) (Or.inl ⟨by rfl, ?_⟩) (by assumption) ?_
  rotate_left
  · (intro w hSw; (try dsimp only at hSw); go_simp; try with_reducible rfl)
  simp only [Act.put, List.getElem_toArray, List.getElem_cons_zero, List.getElem_cons_succ, List.setIfInBounds_toArray, List.set_cons_zero, List.set_cons_succ]
  refine wpAnyH_take (i := 12) (v := ?_) rfl (by kernel_rfl) (by kernel_rfl) (by kernel_rfl) (fun _ _ _ h => h) (Or.inl ⟨by rfl, ?_⟩) (by assumption) ?_
  rotate_left
  · (intro w hSw; (try dsimp only at hSw); go_simp; try with_reducible rfl)
  simp only [Act.put, List.getElem_toArray, List.getElem_cons_zero, List.getElem_cons_succ, List.setIfInBounds_toArray, List.set_cons_zero, List.set_cons_succ]
  refine wpAnyH_ready (rs := [13]) (by kernel_rfl) (by simp) ?_
  refine AllReadyH.cons rfl (fun K hK => ?_) ?_
  rotate_left
  · exact AllReadyH.nil
  go_simp
  refine (HRK.out _).mono ?_
  rintro e w8 ⟨rfl, hbel8⟩
  have hS8 := KEEP.out _ _ hS7 hbel8
  clear hbel8 hS7
  go_simp
  refine hK.out _ _ hS8 (fun hHeld => ?_)
  clear hK K hHeld
  refine wpAnyH_take (i := 14) (v := ?_) rfl (by kernel_rfl) (by kernel_rfl) (by kernel_rfl) (fun _ _ _ h => h) (Or.inl ⟨by rfl, ?_⟩) (by assumption) ?_
  rotate_left
  · (intro w hSw; (try dsimp only at hSw); go_simp; try with_reducible rfl)
  simp only [Act.put, List.getElem_toArray, List.getElem_cons_zero, List.getElem_cons_succ, List.setIfInBounds_toArray, List.set_cons_zero, List.set_cons_succ]
  refine wpAnyH_take (i := 15) (v := ?_) rfl (by kernel_rfl) (by kernel_rfl) (by kernel_rfl) (fun _ _ _ h => h) (Or.inl ⟨by rfl, ?_⟩) (by assumption) ?_
  rotate_left
  · (intro w hSw; (try dsimp only at hSw); go_simp; try with_reducible rfl)
  simp only [Act.put, List.getElem_toArray, List.getElem_cons_zero, List.getElem_cons_succ, List.setIfInBounds_toArray, List.set_cons_zero, List.set_cons_succ]
  refine wpAnyH_take (i := 16) (v := ?_) rfl (by kernel_rfl) (by kernel_rfl) (by kernel_rfl) (fun _ _ _ h => h) (Or.inl ⟨by rfl, ?_⟩) (by assumption) ?_
  rotate_left
  · (intro w hSw; (try dsimp only at hSw); go_simp; try with_reducible rfl)
  simp only [Act.put, List.getElem_toArray, List.getElem_cons_zero, List.getElem_cons_succ, List.setIfInBounds_toArray, List.set_cons_zero, List.set_cons_succ]
  refine wpAnyH_take (i := 17) (v := ?_) rfl (by kernel_rfl) (by kernel_rfl) (by kernel_rfl) (fun _ _ _ h => h) (Or.inl ⟨by rfl, ?_⟩) (by assumption) ?_
  rotate_left
  · (intro w hSw; (try dsimp only at hSw); go_simp; try with_reducible rfl)
  simp only [Act.put, List.getElem_toArray, List.getElem_cons_zero, List.getElem_cons_succ, List.setIfInBounds_toArray, List.set_cons_zero, List.set_cons_succ]
  refine wpAnyH_take (i := 18) (v := ?_) rfl (by kernel_rfl) (by kernel_rfl) (by kernel_rfl) (fun _ _ _ h => h) (Or.inl ⟨by rfl, ?_⟩) (by assumption) ?_
  rotate_left
  · (intro w hSw; (try dsimp only at hSw); go_simp; try with_reducible rfl)
  simp only [Act.put, List.getElem_toArray, List.getElem_cons_zero, List.getElem_cons_succ, List.setIfInBounds_toArray, List.set_cons_zero, List.set_cons_succ]
  refine wpAnyH_take (i := 19) (v := ?_) rfl (by kernel_rfl) (by kernel_rfl) (by kernel_rfl) (fun _ _ _ h => h) (Or.inl ⟨by rfl, ?_⟩) (by assumption) ?_
  rotate_left
  · (intro w hSw; (try dsimp only at hSw); go_simp; try with_reducible rfl)
  simp only [Act.put, List.getElem_toArray, List.getElem_cons_zero, List.getElem_cons_succ, List.setIfInBounds_toArray, List.set_cons_zero, List.set_cons_succ]
  refine wpAnyH_take (i := 20) (v := ?_) rfl (by kernel_rfl) (by kernel_rfl) (by kernel_rfl) (fun _ _ _ h => h) (Or.inl ⟨by rfl, ?_⟩) (by assumption) ?_
  rotate_left
  · (intro w hSw; (try dsimp only at hSw); go_simp; try with_reducible rfl)
  simp only [Act.put, List.getElem_toArray, List.getElem_cons_zero, List.getElem_cons_succ, List.setIfInBounds_toArray, List.set_cons_zero, List.set_cons_succ]
  refine wpAnyH_take (i := 21) (v := ?_) rfl (by kernel_rfl) (by kernel_rfl) (by kernel_rfl) (fun _ _ _ h => h) (Or.inl ⟨by rfl, ?_⟩) (by assumption) ?_
  rotate_left
  · (intro w hSw; (try dsimp only at hSw); go_simp; try with_reducible rfl)
  simp only [Act.put, List.getElem_toArray, List.getElem_cons_zero, List.getElem_cons_succ, List.setIfInBounds_toArray, List.set_cons_zero, List.set_cons_succ]
  refine wpAnyH_take (i := 22) (v := ?_) rfl (by kernel_rfl) (by kernel_rfl) (by kernel_rfl) (fun _ _ _ h => h) (Or.inl ⟨by rfl, ?_⟩) (by assumption) ?_
  rotate_left
  · (intro w hSw; (try dsimp only at hSw); go_simp; try with_reducible rfl)
  simp only [Act.put, List.getElem_toArray, List.getElem_cons_zero, List.getElem_cons_succ, List.setIfInBounds_toArray, List.set_cons_zero, List.set_cons_succ]
  refine wpAnyH_take (i := 23) (v := ?_) rfl (by kernel_rfl) (by kernel_rfl) (by kernel_rfl) (fun _ _ _ h => h) (Or.inl ⟨by rfl, ?_⟩) (by assumption) ?_
  rotate_left
  · (intro w hSw; (try dsimp only at hSw); go_simp; try with_reducible rfl)
  simp only [Act.put, List.getElem_toArray, List.getElem_cons_zero, List.getElem_cons_succ, List.setIfInBounds_toArray, List.set_cons_zero, List.set_cons_succ]
  refine wpAnyH_done (by kernel_rfl) ?_ _
  have hbf : Below w.heap.size w w8 := hbw6.trans (hS8.2.2.2.2.mono (by omega))
  clear hS8 heqD heqK KEEP hu hiD hiK hg25
  go_wp2
  go_ret
  exact ⟨rfl, hbf⟩
end Go.Proofs.YtdlkaeegcagkpaaDoor
