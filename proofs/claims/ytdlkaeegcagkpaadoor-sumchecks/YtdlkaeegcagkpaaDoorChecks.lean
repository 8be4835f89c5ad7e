/-
  What marlstonelaw02.SumChecks answers: a contract over this translation.
-/
import Derived.Test.YtdlkaeegcagkpaaDoorRefSmall
import Derived.Deep.RegionHeld3
namespace Go.Proofs.YtdlkaeegcagkpaaDoor
open Go.RowKit
theorem bytes_drewN {w : World} {ao : Option Addr} {n : Nat} {bs : List UInt8} (h : Bytes w ao n bs) (k : Nat) : Bytes (w.drewN k) ao n bs := bytes_kept h (bel_drewN (Below.refl _ _) k) (Nat.le_refl _)
set_option maxRecDepth 100000 in
set_option maxHeartbeats 1000000 in
theorem checks_walk (ao : Option Addr) (n cap : Nat) (bs d : List UInt8) (w : World) (hb : Bytes w ao n bs) (hnc : n ≤ cap) (hcap : cap ≤ 140737488351232) (hd : d.length = 32) (hK : WW w 0 ks) (h0 : 0 < w.heap.size) :
    Calls Tryd.prog 4 #[.slice ao n cap, .agg (cellsOf d).toArray] w fun e w' => e = .returned (.bool true) ∧ Below w.heap.size w w' := by
  obtain ⟨m, hm⟩ : ∃ m, m = min n 5000 := ⟨_, rfl⟩
  have hmin : min (n : Int) 5000 = (m : Int) := by omega
  have hmn : m ≤ n := by omega
  have HM : Hid (m = min n 5000) := hm
  clear hm
  have hbm := bytes_take hb m hmn
  obtain ⟨ms, hms⟩ : ∃ ms, bs.take m = ms := ⟨_, rfl⟩
  rw [hms] at hbm
  clear hms hb
  have hml := hbm.1
  obtain ⟨q, HQ⟩ : ∃ q : ByteArray, Hid (q = ⟨ms.toArray⟩) := ⟨_, rfl⟩
  have hqB : strB q = ms := by rw [HQ.out]; exact strB_mk ms
  have hqs : q.size ≤ 5000 := by rw [← strB_length, hqB, hml]; have := HM.out; omega
  have R1 := fun w => refCRC_any q w (by omega)
  rw [hqB] at R1
  have C1 := fun w' (h : Bytes w' ao m ms) => crc_any ao m cap ms w' h (by omega)
  have HS : Hid (∀ w', Bytes w' ao m ms → (convert 22 9 (.slice ao m cap)).run Tryd.prog w' = .ok (.string q) w') := fun w' h => by rw [HQ.out]; exact str_bytes cap h
  obtain ⟨c, HC⟩ : ∃ c, Hid (c = crcB ms) := ⟨_, rfl⟩
  rw [← HC.out] at R1 C1
  obtain ⟨S, HSS⟩ : ∃ S : ByteArray, Hid (S = ⟨(hexB d).toArray⟩) := ⟨_, rfl⟩
  have X1 := fun w => hex_any d w hd
  have X2 := fun w => refHex_any d w hd
  rw [← HSS.out] at X1 X2
  have HR1 : Hid (_) := R1
  have HC1 : Hid (_) := C1
  have HX1 : Hid (_) := X1
  have HX2 : Hid (_) := X2
  clear R1 C1 X1 X2 hqB hml
  have hds : (cellsOf d).toArray.size = 32 := by rw [List.size_toArray, cellsOf_length, hd]
  obtain ⟨D, HD⟩ : ∃ D, Hid (D = (cellsOf d).toArray) := ⟨_, rfl⟩
  have hn1 : (0 : Int) ≤ (m : Int) := by omega
  have hn2 : (m : Int) ≤ (cap : Int) := by omega
  go_enter Tryd.func4, Tryd.ntmps4
  go_wp2_with fail
  refine (shown_any _ (hK.below (bel_alloc _ _) h0) (by simp)).mono ?_
  rintro e w1 ⟨rfl, hb1⟩
  have hblk1 : w1.heap[w.heap.size]? = some (.cells (cellsOf d).toArray 25) := (hb1.block _ (by simp)).trans (heap_alloc_new _ _)
  have hbw1 : Below w.heap.size w w1 := (bel_alloc _ _).trans (hb1.mono (by simp))
  have hs1 : w.heap.size + 1 ≤ w1.heap.size := by have := hb1.size; simpa using this
  have hbm1 := bytes_kept hbm hbw1 (Nat.le_refl _)
  clear hb1 hK hbm
  generalize hn : w.heap.size = b at *
  go_wp2_with fail
  have hu := Tryd.underlying25
  have hi : (Tryd.prog.info? 25).map (·.size) = some (cellsOf d).length := by rw [size25, cellsOf_length, hd]
  have hcl : (cellsOf d).length = 32 := by rw [cellsOf_length, hd]
  have hone : ∀ v ∈ cellsOf d, v.oneCell' = true := cellsOf_one d
  have KEEP : Hid (∀ w' w'', ((convert 22 9 (.slice ao m cap)).run Tryd.prog w' = .ok (.string q) w' ∧ w'.rangeAt b 0 (cellsOf d) ∧ Bytes w' ao m ms ∧ Below b w w' ∧ b < w'.heap.size) → Below w'.heap.size w' w'' → ((convert 22 9 (.slice ao m cap)).run Tryd.prog w'' = .ok (.string q) w'' ∧ w''.rangeAt b 0 (cellsOf d) ∧ Bytes w'' ao m ms ∧ Below b w w'' ∧ b < w''.heap.size)) := by
    rintro w' w'' ⟨_, k2, k3, k4, k5⟩ hb
    have hby := bytes_kept k3 hb (Nat.le_refl _)
    exact ⟨HS.out _ hby, fun j v hv => by rw [hb.cell (p := ⟨b, 0 + j, none⟩) k5]; exact k2 j v hv, hby, k4.trans (hb.mono (by omega)), Nat.lt_of_lt_of_le k5 hb.size⟩
  have hS1 : ((convert 22 9 (.slice ao m cap)).run Tryd.prog w1 = .ok (.string q) w1 ∧ w1.rangeAt b 0 (cellsOf d) ∧ Bytes w1 ao m ms ∧ Below b w w1 ∧ b < w1.heap.size) :=
    ⟨HS.out _ hbm1, fun j v hv => by rw [Nat.zero_add, cell_of_row w1 b j _ _ _ hblk1]; simpa using hv, hbm1, hbw1, by omega⟩
  have HC2 : Hid (∀ w', ((convert 22 9 (.slice ao m cap)).run Tryd.prog w' = .ok (.string q) w' ∧ w'.rangeAt b 0 (cellsOf d) ∧ Bytes w' ao m ms ∧ Below b w w' ∧ b < w'.heap.size) → Calls Tryd.prog 14 #[.slice ao m cap] w' fun e w'' => e = .returned (.int .u32 c.toNat) ∧ w'' = w') := fun w' h => HC1.out w' h.2.2.1
  have HS2 : Hid (_ ∧ _) := KEEP.out _ _ hS1 (Below.drew (Below.refl _ _))
  have hS2 := HS2.out
  clear hS1 HS2 hbm1 hblk1 hbw1
  refine wp_region_held_drew (S := (fun w' => (convert 22 9 (.slice ao m cap)).run Tryd.prog w' = .ok (.string q) w' ∧ w'.rangeAt b 0 (cellsOf d) ∧ Bytes w' ao m ms ∧ Below b w w' ∧ b < w'.heap.size)) (by kernel_rfl) hS2 (fun hHeld => ?_)
  clear hHeld
  refine wpAnyH_take (i := 0) (v := ?_) rfl (by kernel_rfl) (by kernel_rfl) (by kernel_rfl) (fun _ _ _ h => h) (Or.inl ⟨by rfl, ?_⟩) (by assumption) ?_
  rotate_left
  · (intro w hSw; (try dsimp only at hSw); go_simp; try with_reducible rfl)
  simp only [Act.put, List.getElem_toArray, List.getElem_cons_zero, List.setIfInBounds_toArray, List.set_cons_zero, List.set_cons_succ]
  refine wpAnyH_take (i := 1) (v := ?_) rfl (by kernel_rfl) (by kernel_rfl) (by kernel_rfl) (fun _ _ _ h => h) (Or.inl ⟨by rfl, ?_⟩) (by assumption) ?_
  rotate_left
  · (intro w hSw; (try dsimp only at hSw); go_simp; try with_reducible rfl)
  simp only [Act.put, List.getElem_toArray, List.getElem_cons_zero, List.getElem_cons_succ, List.setIfInBounds_toArray, List.set_cons_zero, List.set_cons_succ]
  refine wpAnyH_take (i := 2) (v := ?_) rfl (by kernel_rfl) (by kernel_rfl) (by kernel_rfl) (fun _ _ _ h => h) (Or.inl ⟨by rfl, ?_⟩) (by assumption) ?_
  rotate_left
  · (intro w hSw; (try dsimp only at hSw); go_simp; try with_reducible rfl)
  simp only [Act.put, List.getElem_toArray, List.getElem_cons_zero, List.getElem_cons_succ, List.setIfInBounds_toArray, List.set_cons_zero, List.set_cons_succ]
  refine wpAnyH_take (i := 4) (v := ?_) rfl (by kernel_rfl) (by kernel_rfl) (by kernel_rfl) (fun _ _ _ h => h) (Or.inl ⟨by rfl, ?_⟩) (by assumption) ?_
  rotate_left
  · (intro w hSw; (try dsimp only at hSw); go_simp; try with_reducible rfl)
  simp only [Act.put, List.getElem_toArray, List.getElem_cons_zero, List.getElem_cons_succ, List.setIfInBounds_toArray, List.set_cons_zero, List.set_cons_succ]
  refine wpAnyH_take (i := 5) (v := ?_) rfl (by kernel_rfl) (by kernel_rfl) (by kernel_rfl) (fun _ _ _ h => h) (Or.inl ⟨by rfl, ?_⟩) (by assumption) ?_
  rotate_left
  · (intro w hSw; (try dsimp only at hSw); go_simp; try with_reducible rfl)
  simp only [Act.put, List.getElem_toArray, List.getElem_cons_zero, List.getElem_cons_succ, List.setIfInBounds_toArray, List.set_cons_zero, List.set_cons_succ]
  refine wpAnyH_ready (rs := [3]) (by kernel_rfl) (by simp) ?_
  refine AllReadyH.cons rfl (fun K hK => ?_) ?_
  rotate_left
  · exact AllReadyH.nil
  go_simp
  refine (HC2.out _ hS2).mono ?_
  rintro e w3 ⟨rfl, rfl⟩
  go_simp
  refine hK.out _ _ (by assumption) (fun hHeld => ?_)
  clear hK K
  refine wpAnyH_ready (rs := [6]) (by kernel_rfl) (by simp) ?_
  refine AllReadyH.cons rfl (fun K hK => ?_) ?_
  rotate_left
  · exact AllReadyH.nil
  go_simp
  refine (HR1.out _).mono ?_
  rintro e w3 ⟨rfl, rfl⟩
  go_simp
  refine hK.out _ _ (by assumption) (fun hHeld => ?_)
  clear hK K
  refine wpAnyH_take (i := 7) (v := ?_) rfl (by kernel_rfl) (by kernel_rfl) (by kernel_rfl) (fun _ _ _ h => h) (Or.inl ⟨by rfl, ?_⟩) (by assumption) ?_
  rotate_left
  · (intro w hSw; (try dsimp only at hSw); go_simp; try with_reducible rfl)
  simp only [Act.put, List.getElem_toArray, List.getElem_cons_zero, List.getElem_cons_succ, List.setIfInBounds_toArray, List.set_cons_zero, List.set_cons_succ]
  refine wpAnyH_take (i := 8) (v := ?_) rfl (by kernel_rfl) (by kernel_rfl) (by kernel_rfl) (fun _ _ _ h => h) (Or.inl ⟨by rfl, ?_⟩) (by assumption) ?_
  rotate_left
  · (intro w hSw; (try dsimp only at hSw); go_simp; try with_reducible rfl)
  simp only [Act.put, List.getElem_toArray, List.getElem_cons_zero, List.getElem_cons_succ, List.setIfInBounds_toArray, List.set_cons_zero, List.set_cons_succ]
  refine wpAnyH_take (i := 9) (v := ?_) rfl (by kernel_rfl) (by kernel_rfl) (by kernel_rfl) (fun _ _ _ h => h) (Or.inl ⟨by rfl, ?_⟩) (by assumption) ?_
  rotate_left
  · (intro w hSw; (try dsimp only at hSw); go_simp; try with_reducible rfl)
  simp only [Act.put, List.getElem_toArray, List.getElem_cons_zero, List.getElem_cons_succ, List.setIfInBounds_toArray, List.set_cons_zero, List.set_cons_succ]
  refine wpAnyH_take (i := 10) (v := .agg (cellsOf d).toArray) rfl (by kernel_rfl) (by kernel_rfl) (by kernel_rfl) (fun _ _ _ h => h) (yieldsIf_load_mid (by rfl) 25 (.tmp 3) rfl b 0 rfl (cellsOf d) _ (fun _ h => h.2.1) hu rfl hi) (by assumption) ?_
  simp only [Act.put, List.getElem_toArray, List.getElem_cons_zero, List.getElem_cons_succ, List.setIfInBounds_toArray, List.set_cons_zero, List.set_cons_succ]
  refine wpAnyH_take (i := 12) (v := .agg (cellsOf d).toArray) rfl (by kernel_rfl) (by kernel_rfl) (by kernel_rfl) (fun _ _ _ h => h) (yieldsIf_load_mid (by rfl) 25 (.tmp 3) rfl b 0 rfl (cellsOf d) _ (fun _ h => h.2.1) hu rfl hi) (by assumption) ?_
  simp only [Act.put, List.getElem_toArray, List.getElem_cons_zero, List.getElem_cons_succ, List.setIfInBounds_toArray, List.set_cons_zero, List.set_cons_succ]
  refine wpAnyH_ready (rs := [11]) (by kernel_rfl) (by simp) ?_
  refine AllReadyH.cons rfl (fun K hK => ?_) ?_
  rotate_left
  · exact AllReadyH.nil
  go_simp
  refine (HX1.out _).mono ?_
  rintro e w6 ⟨rfl, hbel6⟩
  have hS6 := KEEP.out _ _ hS2 hbel6
  clear hbel6 hS2
  go_simp
  refine hK.out _ _ (by assumption) (fun hHeld => ?_)
  clear hK K
  refine wpAnyH_ready (rs := [13]) (by kernel_rfl) (by simp) ?_
  refine AllReadyH.cons rfl (fun K hK => ?_) ?_
  rotate_left
  · exact AllReadyH.nil
  go_simp
  refine (HX2.out _).mono ?_
  rintro e w7 ⟨rfl, hbel7⟩
  have hS7 := KEEP.out _ _ hS6 hbel7
  clear hbel7 hS6
  go_simp
  refine hK.out _ _ (by assumption) (fun hHeld => ?_)
  clear hK K
  refine wpAnyH_take (i := 14) (v := ?_) rfl (by kernel_rfl) (by kernel_rfl) (by kernel_rfl) (fun _ _ _ h => h) (Or.inl ⟨by rfl, ?_⟩) (by assumption) ?_
  rotate_left
  · (intro w hSw; (try dsimp only at hSw); go_simp; try with_reducible rfl)
  simp only [Act.put, List.getElem_toArray, List.getElem_cons_zero, List.getElem_cons_succ, List.setIfInBounds_toArray, List.set_cons_zero, List.set_cons_succ]
  refine wpAnyH_take (i := 15) (v := ?_) rfl (by kernel_rfl) (by kernel_rfl) (by kernel_rfl) (fun _ _ _ h => h) (Or.inl ⟨by rfl, ?_⟩) (by assumption) ?_
  rotate_left
  · (intro w hSw; (try dsimp only at hSw); go_simp; try with_reducible rfl)
  simp only [Act.put, List.getElem_toArray, List.getElem_cons_zero, List.getElem_cons_succ, List.setIfInBounds_toArray, List.set_cons_zero, List.set_cons_succ]
  refine wpAnyH_take (i := 16) (v := ?_) rfl (by kernel_rfl) (by kernel_rfl) (by kernel_rfl) (fun _ _ _ h => h) (Or.inl ⟨by rfl, ?_⟩) (by assumption) ?_
  rotate_left
  · (intro w hSw; (try dsimp only at hSw); go_simp; try with_reducible rfl)
  simp only [Act.put, List.getElem_toArray, List.getElem_cons_zero, List.getElem_cons_succ, List.setIfInBounds_toArray, List.set_cons_zero, List.set_cons_succ]
  refine wpAnyH_done (by kernel_rfl) ?_ _
  have hbw7 := hS7.2.2.2.1
  clear hS7 hHeld
  go_wp2
  go_ret
  exact ⟨rfl, by rw [hn]; exact hbw7⟩
end Go.Proofs.YtdlkaeegcagkpaaDoor
