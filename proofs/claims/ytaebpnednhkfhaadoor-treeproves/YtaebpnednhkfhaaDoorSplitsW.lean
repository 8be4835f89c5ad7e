/-
  The walk of marlstonelaw05.TreeSplits.
-/
import Derived.Test.YtaebpnednhkfhaaDoorShown
import Derived.Test.YtaebpnednhkfhaaDoorPartV
import Derived.Deep.LoopGhost
namespace Go.Proofs.YtaebpnednhkfhaaDoor
open Go.RowKit
theorem half_is {n j : Nat} (h1 : 2 ^ j < n) (h2 : n ≤ 2 * 2 ^ j) (hn : n ≤ 9223372036854775807) : halfN n = 2 ^ j := by
  have hp : 1 ≤ 2 ^ j := Nat.one_le_two_pow
  obtain ⟨-, a2, a3, -, -⟩ := halfN_spec n (by omega) hn
  unfold halfN at a2 a3 ⊢
  generalize Lib.bitLen (n - 1) - 1 = i at a2 a3 ⊢
  have e1 : 2 ^ i < 2 ^ (j + 1) := by rw [Nat.pow_succ]; omega
  have e2 : 2 ^ j < 2 ^ (i + 1) := by rw [Nat.pow_succ]; omega
  have f1 := (Nat.pow_lt_pow_iff_right (by decide : 1 < 2)).1 e1
  have f2 := (Nat.pow_lt_pow_iff_right (by decide : 1 < 2)).1 e2
  rw [show i = j by omega]
set_option maxRecDepth 100000 in
set_option maxHeartbeats 4000000 in
theorem splits_walk (z : Int) (a0 : Option Addr) (n0 c0 : Nat) (b off : Nat) (ps : List PP) (w : World) (hP : Pieces w b off ps) (hn : ps.length = n0) (ha : 0 < n0 → a0 = some ⟨b, off, none⟩) (hK : WW w 0 ks) (h0 : 0 < w.heap.size) (hz : -9223372036854775808 ≤ z ∧ z ≤ 9223372036854775807) :
    Calls Tryd.prog 9 #[.int .i64 z, .slice a0 n0 c0] w fun e w' => e = .returned (.bool true) ∧ Below w.heap.size w w' := by
  have HKW : Hid (WW w 0 ks ∧ 0 < w.heap.size) := ⟨hK, h0⟩
  have HSH : Hid (Calls Tryd.prog 20 #[] w fun e w' => e = .returned (.bool true) ∧ Below w.heap.size w w') := shown_any w hK h0
  have HSM : Hid (∀ W, Below w.heap.size w W → Calls Tryd.prog 21 #[.slice a0 n0 c0] W fun e w' => ∃ ao' n' c', e = .returned (.slice ao' n' c') ∧ CutV w' ao' n' c' (cutL ps 70 200) ∧ n' ≤ 70 ∧ Below W.heap.size W w') := fun W hW => small_any b off n0 c0 a0 ps W (hP.below hW (Nat.le_refl _)) hn ha
  have HZ : Hid (-9223372036854775808 ≤ z ∧ z ≤ 9223372036854775807) := hz
  clear hP hn ha hK h0 hz
  go_enter Tryd.func9, Tryd.ntmps9
  go_wp2_with fail
  refine (HSH.out).mono ?_
  rintro e w1 ⟨rfl, hb1⟩
  have HB1 : Hid (Below w.heap.size w w1) := hb1
  clear hb1
  go_wp2_with fail
  refine (HSM.out _ HB1.out).mono ?_
  rintro e w2 ⟨ao, n, c, rfl, ⟨ls, hL, hE⟩, hn70, hb2⟩
  have HLV : Hid (LeavesV w2 ao n c ls) := hL
  have HEL : Hid (bytesL ls = cutL ps 70 200) := hE
  have HN70 : Hid (n ≤ 70) := hn70
  have HB2 : Hid (Below w.heap.size w w2) := HB1.out.trans (hb2.mono HB1.out.size)
  have HKB : Hid (∀ W, Below w2.heap.size w2 W → WW W 0 ks ∧ 0 < W.heap.size) := fun W hW => by
    have h1 := HB2.out.trans (hW.mono HB2.out.size)
    exact ⟨HKW.out.1.below h1 HKW.out.2, Nat.lt_of_lt_of_le HKW.out.2 h1.size⟩
  clear hL hE hn70 hb2 HB1 HSH HSM
  obtain ⟨w3, HW3⟩ : ∃ W, Hid (w2.alloc (Obj.cells #[Value.int IntKind.i64 z] 30) = W) := ⟨_, rfl⟩
  have HB3 : Hid (Below w2.heap.size w2 w3) := by show Below _ _ _; rw [← HW3.out]; exact bel_alloc _ _
  have HN3 : Hid (w3.heap[w2.heap.size]? = some (.cells #[Value.int IntKind.i64 z] 30 (0, 0))) := by show _ = _; rw [← HW3.out]; exact heap_alloc_new _ _
  have HKB3 : Hid (∀ W, Below w3.heap.size w3 W → WW W 0 ks ∧ 0 < W.heap.size) := fun W hW => HKB.out W (HB3.out.trans (hW.mono HB3.out.size))
  have HLV3 : Hid (∀ W, Below w3.heap.size w3 W → LeavesV W ao n c ls) := fun W hW => (HLV.out.below HB3.out (Nat.le_refl _)).below hW (Nat.le_refl _)
  have HBW : Hid (∀ W, Below w3.heap.size w3 W → Below w.heap.size w W) := fun W hW => HB2.out.trans ((HB3.out.trans (hW.mono HB3.out.size)).mono HB2.out.size)
  have HNC : Hid (n ≤ c ∧ c ≤ 9223372036854775807) := ⟨HLV.out.2.1, HLV.out.2.2.1⟩
  have HCZ : Hid (∀ W, Below w3.heap.size w3 W → W.cell? ⟨w2.heap.size, 0, none⟩ = some (.int .i64 z)) := fun W hW => bel_cell2 hW (Nat.le_refl _) (by rw [cell_of_row w3 _ 0 _ _ _ HN3.out]; rfl)
  by_cases hn0 : n = 0
  · subst hn0
    go_wp2_with fail
    go_ret
    rw [HW3.out]
    exact ⟨rfl, HBW.out _ (Below.refl _ _)⟩
  obtain ⟨b1, o1, rfl, hAt⟩ := HLV.out.2.2.2 (by omega)
  have HAT : Hid (∀ W, Below w3.heap.size w3 W → LeavesAt W b1 o1 ls) := fun W hW => (hAt.below HB3.out (Nat.le_refl _)).below hW (Nat.le_refl _)
  clear hAt
  by_cases hn1 : n = 1
  · subst hn1
    obtain ⟨p, HP⟩ : ∃ p, Hid (ls = [p]) := by
      have h := HLV.out.1
      match ls, h with
      | [p], _ => exact ⟨p, rfl⟩
    have hpl := HP.out
    subst hpl
    obtain ⟨d, HD⟩ : ∃ d, Hid (leafD z p.bs = d) := ⟨_, rfl⟩
    have HDL : Hid (d.length = 32) := by show _ = _; rw [← HD.out]; exact leafD_length _ _
    have HRO : Hid (∀ W, Below w3.heap.size w3 W → Calls Tryd.prog 23 #[.agg #[.int .i64 z], .slice (some ⟨b1, o1, none⟩) 1 c] W fun e w' => e = .returned (dv d) ∧ Below W.heap.size W w') := fun W hW => by
      have h := root_any z HZ.out 1 _ c _ W (HLV3.out W hW) (by omega) (HKB3.out W hW).1 (HKB3.out W hW).2
      rw [show rootD z (bytesL [p]) = d from (rootD_one z p.bs).trans HD.out] at h; exact h
    have HLF : Hid (∀ W, Below w3.heap.size w3 W → Calls Tryd.prog 29 #[.agg #[.int .i64 z], .slice p.ao p.n p.c] W fun e w' => e = .returned (dv d) ∧ Below W.heap.size W w') := fun W hW => by
      obtain ⟨h1, h2, h3, h4⟩ := HAT.out W hW 0 p rfl
      have h := leaf_any z p.ao p.n p.c p.bs W h2 h4 h3 (HKB3.out W hW).1 (HKB3.out W hW).2 HZ.out
      rw [HD.out] at h; exact h
    have HS : Hid (∀ W, Below w3.heap.size w3 W → W.cell? ⟨w2.heap.size, 0, none⟩ = some (.int .i64 z) ∧ W.cell? ⟨b1, o1, none⟩ = some (.slice p.ao p.n p.c)) := fun W hW => ⟨HCZ.out W hW, (HAT.out W hW 0 p rfl).1⟩
    have heq := eq_same d HDL.out
    have hg := guard24
    clear hn0
    go_upto_region 7 with fail
    rw [HW3.out]
    refine wp_region_held_drew (S := fun W => W.cell? ⟨w2.heap.size, 0, none⟩ = some (.int .i64 z) ∧ W.cell? ⟨b1, o1, none⟩ = some (.slice p.ao p.n p.c)) (by kernel_rfl) (HS.out _ (Below.drew (Below.refl _ _))) (fun hS => ?_)
    refine wpAnyH_take (i := 0) (v := ?_) rfl (by kernel_rfl) (by kernel_rfl) (by kernel_rfl) (fun _ _ _ h => h) (Or.inl ⟨by rfl, ?_⟩) (by assumption) ?_
    rotate_left
    · (intro w hSw; (try dsimp only at hSw); go_simp; try with_reducible rfl)
    simp only [Act.put, List.getElem_toArray, List.getElem_cons_zero, List.setIfInBounds_toArray, List.set_cons_zero, List.set_cons_succ]
    refine wpAnyH_take (i := 1) (v := ?_) rfl (by kernel_rfl) (by kernel_rfl) (by kernel_rfl) (fun _ _ _ h => h) (Or.inl ⟨by rfl, ?_⟩) (by assumption) ?_
    rotate_left
    · (intro w hSw; (try dsimp only at hSw); go_simp; try with_reducible rfl)
    simp only [Act.put, List.getElem_toArray, List.getElem_cons_zero, List.getElem_cons_succ, List.setIfInBounds_toArray, List.set_cons_zero, List.set_cons_succ]
    refine wpAnyH_take (i := 2) (v := ?_) rfl (by kernel_rfl) (by kernel_rfl) (by kernel_rfl) (fun _ _ _ h => h) (Or.inl ⟨by rfl, ?_⟩) (by assumption) ?_
    rotate_left
    · (intro w hSw; (try dsimp only at hSw); go_simp; try with_reducible rfl)
    simp only [Act.put, List.getElem_toArray, List.getElem_cons_zero, List.getElem_cons_succ, List.setIfInBounds_toArray, List.set_cons_zero, List.set_cons_succ]
    refine wpAnyH_take (i := 3) (v := ?_) rfl (by kernel_rfl) (by kernel_rfl) (by kernel_rfl) (fun _ _ _ h => h) (Or.inl ⟨by rfl, ?_⟩) (by assumption) ?_
    rotate_left
    · (intro w hSw; (try dsimp only at hSw); go_simp; try with_reducible rfl)
    simp only [Act.put, List.getElem_toArray, List.getElem_cons_zero, List.getElem_cons_succ, List.setIfInBounds_toArray, List.set_cons_zero, List.set_cons_succ]
    refine wpAnyH_take (i := 5) (v := ?_) rfl (by kernel_rfl) (by kernel_rfl) (by kernel_rfl) (fun _ _ _ h => h) (Or.inl ⟨by rfl, ?_⟩) (by assumption) ?_
    rotate_left
    · (intro w hSw; (try dsimp only at hSw); go_simp; try with_reducible rfl)
    simp only [Act.put, List.getElem_toArray, List.getElem_cons_zero, List.getElem_cons_succ, List.setIfInBounds_toArray, List.set_cons_zero, List.set_cons_succ]
    refine wpAnyH_take (i := 6) (v := ?_) rfl (by kernel_rfl) (by kernel_rfl) (by kernel_rfl) (fun _ _ _ h => h) (Or.inl ⟨by rfl, ?_⟩) (by assumption) ?_
    rotate_left
    · (intro w hSw; (try dsimp only at hSw); go_simp; try with_reducible rfl)
    simp only [Act.put, List.getElem_toArray, List.getElem_cons_zero, List.getElem_cons_succ, List.setIfInBounds_toArray, List.set_cons_zero, List.set_cons_succ]
    refine wpAnyH_take (i := 7) (v := ?_) rfl (by kernel_rfl) (by kernel_rfl) (by kernel_rfl) (fun _ _ _ h => h) (Or.inl ⟨by rfl, ?_⟩) (by assumption) ?_
    rotate_left
    · (intro w hSw; (try dsimp only at hSw); go_simp; try with_reducible rfl)
    simp only [Act.put, List.getElem_toArray, List.getElem_cons_zero, List.getElem_cons_succ, List.setIfInBounds_toArray, List.set_cons_zero, List.set_cons_succ]
    refine wpAnyH_take (i := 8) (v := ?_) rfl (by kernel_rfl) (by kernel_rfl) (by kernel_rfl) (fun _ _ _ h => h) (Or.inl ⟨by rfl, ?_⟩) (by assumption) ?_
    rotate_left
    · (intro w hSw; (try dsimp only at hSw); go_simp; try with_reducible rfl)
    simp only [Act.put, List.getElem_toArray, List.getElem_cons_zero, List.getElem_cons_succ, List.setIfInBounds_toArray, List.set_cons_zero, List.set_cons_succ]
    refine wpAnyH_ready (rs := [4]) (by kernel_rfl) (by simp) ?_
    refine AllReadyH.cons rfl (fun K hK => ?_) AllReadyH.nil
    go_simp
    refine (HRO.out _ (Below.drew (Below.refl w3.heap.size w3))).mono ?_
    rintro e y1 ⟨rfl, hy1⟩
    have HC1 : Hid (Below w3.heap.size w3 y1) := (Below.drew (Below.refl w3.heap.size w3)).trans (hy1.mono (Nat.le_refl _))
    clear hy1
    try unfold dv
    go_wp2_with fail
    refine hK.out _ _ (HS.out _ HC1.out) (fun hHeld2 => ?_)
    clear hK K
    refine wpAnyH_ready (rs := [9]) (by kernel_rfl) (by simp) ?_
    refine AllReadyH.cons rfl (fun K hK => ?_) AllReadyH.nil
    go_simp
    refine (HLF.out _ HC1.out).mono ?_
    rintro e y2 ⟨rfl, hy2⟩
    have HC2 : Hid (Below w3.heap.size w3 y2) := HC1.out.trans (hy2.mono HC1.out.size)
    clear hy2
    try unfold dv
    go_wp2_with fail
    refine hK.out _ _ (HS.out _ HC2.out) (fun hHeld2 => ?_)
    clear hK K
    refine wpAnyH_take (i := 10) (v := ?_) rfl (by kernel_rfl) (by kernel_rfl) (by kernel_rfl) (fun _ _ _ h => h) (Or.inl ⟨by rfl, ?_⟩) (by assumption) ?_
    rotate_left
    · (intro w hSw; (try dsimp only at hSw); go_simp; try with_reducible rfl)
    simp only [Act.put, List.getElem_toArray, List.getElem_cons_zero, List.getElem_cons_succ, List.setIfInBounds_toArray, List.set_cons_zero, List.set_cons_succ]
    refine wpAnyH_take (i := 11) (v := ?_) rfl (by kernel_rfl) (by kernel_rfl) (by kernel_rfl) (fun _ _ _ h => h) (Or.inl ⟨by rfl, ?_⟩) (by assumption) ?_
    rotate_left
    · (intro w hSw; (try dsimp only at hSw); go_simp; try with_reducible rfl)
    simp only [Act.put, List.getElem_toArray, List.getElem_cons_zero, List.getElem_cons_succ, List.setIfInBounds_toArray, List.set_cons_zero, List.set_cons_succ]
    refine wpAnyH_take (i := 12) (v := ?_) rfl (by kernel_rfl) (by kernel_rfl) (by kernel_rfl) (fun _ _ _ h => h) (Or.inl ⟨by rfl, ?_⟩) (by assumption) ?_
    rotate_left
    · (intro w hSw; (try dsimp only at hSw); go_simp; try with_reducible rfl)
    simp only [Act.put, List.getElem_toArray, List.getElem_cons_zero, List.getElem_cons_succ, List.setIfInBounds_toArray, List.set_cons_zero, List.set_cons_succ]
    refine wpAnyH_done (by kernel_rfl) ?_ _
    clear hS hHeld2
    go_wp2_with fail
    go_ret
    exact ⟨rfl, HBW.out _ HC2.out⟩
  have hz1 : ((n : Int) == 0) = false := by simp; omega
  have hz2 : ((n : Int) == 1) = false := by simp; omega
  go_wp2_with fail
  rw [HW3.out]
  clear hz1 hz2 HW3
  go_loopw [7] (fun s7 wr => ∃ j : Nat, s7 = .int .i64 ((2 ^ j : Nat) : Int) ∧ 2 ^ j < n ∧ Hid (wr = w3)) (fun x _ => n - (intOf x).toNat)
  case atStart => exact ⟨0, rfl, by simp; omega, rfl⟩
  case round =>
    obtain ⟨j, rfl, hj, HWR⟩ := hrel
    obtain ⟨k, HK⟩ : ∃ k : Nat, Hid (2 ^ j = k) := ⟨_, rfl⟩
    have HK1 : Hid (1 ≤ 2 ^ j) := Nat.one_le_two_pow
    rw [HK.out] at hj HK1 ⊢
    have hn7 := HN70.out
    have hjz : (k : Int) < (n : Int) := by omega
    by_cases hlt : 2 * k < n
    case pos =>
      have hlz : 2 * (k : Int) < (n : Int) := by omega
      have HK2 : Hid (2 ^ (j + 1) = 2 * k) := by show _ = _; rw [Nat.pow_succ, HK.out]; omega
      obtain ⟨k2, HKK⟩ : ∃ q : Nat, Hid (2 * k = q) := ⟨_, rfl⟩
      rw [HKK.out] at HK2 hlt
      clear hj
      go_wp2_with fail
      refine ⟨⟨j + 1, by rw [HK2.out, show (k2 : Int) = (k : Int) * 2 by have := HKK.out; omega], by rw [HK2.out]; exact hlt, HWR⟩, ?_⟩
      have := HKK.out
      have := HK1.out
      simp [intOf]
      omega
    case neg =>
      have hlz : ¬ 2 * (k : Int) < (n : Int) := by omega
      have hlzd : decide (2 * (k : Int) < (n : Int)) = false := decide_eq_false hlz
      have HHF : Hid (halfN n = k) := by show _ = _; rw [← HK.out]; exact half_is (by rw [HK.out]; exact hj) (by rw [HK.out]; omega) (by omega)
      have HRT : Hid (rootD z (bytesL ls) = nodeD z (rootD z (bytesL (ls.take k))) (rootD z (bytesL (ls.drop k)))) := by
        show _ = _
        have hl : (bytesL ls).length = n := by rw [bytesL, List.length_map]; exact HLV.out.1
        have h := rootD_two z (bytesL ls) (by omega) (by omega)
        rw [hl, HHF.out] at h
        simpa [bytesL, List.map_take, List.map_drop] using h
      obtain ⟨r0, HR0⟩ : ∃ d, Hid (rootD z (bytesL ls) = d) := ⟨_, rfl⟩
      obtain ⟨r1, HR1⟩ : ∃ d, Hid (rootD z (bytesL (ls.take k)) = d) := ⟨_, rfl⟩
      obtain ⟨r2, HR2⟩ : ∃ d, Hid (rootD z (bytesL (ls.drop k)) = d) := ⟨_, rfl⟩
      have HL0 : Hid (r0.length = 32) := by show _ = _; rw [← HR0.out]; exact rootD_length _ _
      have HL1 : Hid (r1.length = 32) := by show _ = _; rw [← HR1.out]; exact rootD_length _ _
      have HL2 : Hid (r2.length = 32) := by show _ = _; rw [← HR2.out]; exact rootD_length _ _
      have HC0 : Hid (∀ W, Below w3.heap.size w3 W → Calls Tryd.prog 23 #[.agg #[.int .i64 z], .slice (some ⟨b1, o1, none⟩) n c] W fun e w' => e = .returned (dv r0) ∧ Below W.heap.size W w') := fun W hW => by
        have h := root_any z HZ.out n _ c _ W (HLV3.out W hW) (by omega) (HKB3.out W hW).1 (HKB3.out W hW).2
        rw [HR0.out] at h; exact h
      have HCA : Hid (∀ W, Below w3.heap.size w3 W → Calls Tryd.prog 23 #[.agg #[.int .i64 z], .slice (some ⟨b1, o1, none⟩) k c] W fun e w' => e = .returned (dv r1) ∧ Below W.heap.size W w') := fun W hW => by
        have h := root_any z HZ.out k _ c _ W ((HLV3.out W hW).take k (by omega)) (by omega) (HKB3.out W hW).1 (HKB3.out W hW).2
        rw [HR1.out] at h; exact h
      have HCB : Hid (∀ W, Below w3.heap.size w3 W → Calls Tryd.prog 23 #[.agg #[.int .i64 z], .slice (some ⟨b1, o1 + k, none⟩) (n - k) (c - k)] W fun e w' => e = .returned (dv r2) ∧ Below W.heap.size W w') := fun W hW => by
        have h := root_any z HZ.out (n - k) _ (c - k) _ W ((HLV3.out W hW).drop k (by omega)) (by omega) (HKB3.out W hW).1 (HKB3.out W hW).2
        rw [HR2.out] at h; exact h
      have HCN : Hid (∀ W, Below w3.heap.size w3 W → Calls Tryd.prog 26 #[.agg #[.int .i64 z], .agg (cellsOf r1).toArray, .agg (cellsOf r2).toArray] W fun e w' => e = .returned (dv r0) ∧ Below W.heap.size W w') := fun W hW => by
        have h := node_any z r1 r2 W HL1.out HL2.out (HKB3.out W hW).1 (HKB3.out W hW).2 HZ.out
        rw [← HR1.out, ← HR2.out, ← HRT.out, HR0.out] at h; rw [← HR1.out, ← HR2.out]; exact h
      have heq := eq_same r0 HL0.out
      have hg := guard24
      have hkn : k ≤ n := by omega
      have hkc : k ≤ c := by have := HNC.out; omega
      have hnc : n ≤ c := HNC.out.1
      have hcne : c - k ≠ 0 := by have := HNC.out; omega
      have hck : ¬ c = k := by omega
      have hcz : (k : Int) ≤ (c : Int) := by omega
      have hnz : (n : Int) ≤ (c : Int) := by omega
      have hknz : (k : Int) ≤ (n : Int) := by omega
      go_upto_region 12 with fail
      rw [HWR.out]
      refine wp_region_held_drew (S := fun W => W.cell? ⟨w2.heap.size, 0, none⟩ = some (.int .i64 z)) (by kernel_rfl) (HCZ.out _ (Below.drew (Below.refl _ _))) (fun hS => ?_)
      refine wpAnyH_take (i := 0) (v := ?_) rfl (by kernel_rfl) (by kernel_rfl) (by kernel_rfl) (fun _ _ _ h => h) (Or.inl ⟨by rfl, ?_⟩) (by assumption) ?_
      rotate_left
      · (intro w hSw; (try dsimp only at hSw); go_simp; try with_reducible rfl)
      simp only [Act.put, List.getElem_toArray, List.getElem_cons_zero, List.setIfInBounds_toArray, List.set_cons_zero, List.set_cons_succ]
      refine wpAnyH_take (i := 1) (v := ?_) rfl (by kernel_rfl) (by kernel_rfl) (by kernel_rfl) (fun _ _ _ h => h) (Or.inl ⟨by rfl, ?_⟩) (by assumption) ?_
      rotate_left
      · (intro w hSw; (try dsimp only at hSw); go_simp; try with_reducible rfl)
      simp only [Act.put, List.getElem_toArray, List.getElem_cons_zero, List.getElem_cons_succ, List.setIfInBounds_toArray, List.set_cons_zero, List.set_cons_succ]
      refine wpAnyH_take (i := 2) (v := ?_) rfl (by kernel_rfl) (by kernel_rfl) (by kernel_rfl) (fun _ _ _ h => h) (Or.inl ⟨by rfl, ?_⟩) (by assumption) ?_
      rotate_left
      · (intro w hSw; (try dsimp only at hSw); go_simp; try with_reducible rfl)
      simp only [Act.put, List.getElem_toArray, List.getElem_cons_zero, List.getElem_cons_succ, List.setIfInBounds_toArray, List.set_cons_zero, List.set_cons_succ]
      refine wpAnyH_take (i := 3) (v := ?_) rfl (by kernel_rfl) (by kernel_rfl) (by kernel_rfl) (fun _ _ _ h => h) (Or.inl ⟨by rfl, ?_⟩) (by assumption) ?_
      rotate_left
      · (intro w hSw; (try dsimp only at hSw); go_simp; try with_reducible rfl)
      simp only [Act.put, List.getElem_toArray, List.getElem_cons_zero, List.getElem_cons_succ, List.setIfInBounds_toArray, List.set_cons_zero, List.set_cons_succ]
      refine wpAnyH_take (i := 5) (v := ?_) rfl (by kernel_rfl) (by kernel_rfl) (by kernel_rfl) (fun _ _ _ h => h) (Or.inl ⟨by rfl, ?_⟩) (by assumption) ?_
      rotate_left
      · (intro w hSw; (try dsimp only at hSw); go_simp; try with_reducible rfl)
      simp only [Act.put, List.getElem_toArray, List.getElem_cons_zero, List.getElem_cons_succ, List.setIfInBounds_toArray, List.set_cons_zero, List.set_cons_succ]
      refine wpAnyH_take (i := 6) (v := ?_) rfl (by kernel_rfl) (by kernel_rfl) (by kernel_rfl) (fun _ _ _ h => h) (Or.inl ⟨by rfl, ?_⟩) (by assumption) ?_
      rotate_left
      · (intro w hSw; (try dsimp only at hSw); go_simp; try with_reducible rfl)
      simp only [Act.put, List.getElem_toArray, List.getElem_cons_zero, List.getElem_cons_succ, List.setIfInBounds_toArray, List.set_cons_zero, List.set_cons_succ]
      refine wpAnyH_take (i := 7) (v := ?_) rfl (by kernel_rfl) (by kernel_rfl) (by kernel_rfl) (fun _ _ _ h => h) (Or.inl ⟨by rfl, ?_⟩) (by assumption) ?_
      rotate_left
      · (intro w hSw; (try dsimp only at hSw); go_simp; try with_reducible rfl)
      simp only [Act.put, List.getElem_toArray, List.getElem_cons_zero, List.getElem_cons_succ, List.setIfInBounds_toArray, List.set_cons_zero, List.set_cons_succ]
      refine wpAnyH_take (i := 8) (v := ?_) rfl (by kernel_rfl) (by kernel_rfl) (by kernel_rfl) (fun _ _ _ h => h) (Or.inl ⟨by rfl, ?_⟩) (by assumption) ?_
      rotate_left
      · (intro w hSw; (try dsimp only at hSw); go_simp; try with_reducible rfl)
      simp only [Act.put, List.getElem_toArray, List.getElem_cons_zero, List.getElem_cons_succ, List.setIfInBounds_toArray, List.set_cons_zero, List.set_cons_succ]
      refine wpAnyH_take (i := 9) (v := ?_) rfl (by kernel_rfl) (by kernel_rfl) (by kernel_rfl) (fun _ _ _ h => h) (Or.inl ⟨by rfl, ?_⟩) (by assumption) ?_
      rotate_left
      · (intro w hSw; (try dsimp only at hSw); go_simp; try with_reducible rfl)
      simp only [Act.put, List.getElem_toArray, List.getElem_cons_zero, List.getElem_cons_succ, List.setIfInBounds_toArray, List.set_cons_zero, List.set_cons_succ]
      refine wpAnyH_take (i := 11) (v := ?_) rfl (by kernel_rfl) (by kernel_rfl) (by kernel_rfl) (fun _ _ _ h => h) (Or.inl ⟨by rfl, ?_⟩) (by assumption) ?_
      rotate_left
      · (intro w hSw; (try dsimp only at hSw); go_simp; try with_reducible rfl)
      simp only [Act.put, List.getElem_toArray, List.getElem_cons_zero, List.getElem_cons_succ, List.setIfInBounds_toArray, List.set_cons_zero, List.set_cons_succ]
      refine wpAnyH_take (i := 12) (v := ?_) rfl (by kernel_rfl) (by kernel_rfl) (by kernel_rfl) (fun _ _ _ h => h) (Or.inl ⟨by rfl, ?_⟩) (by assumption) ?_
      rotate_left
      · (intro w hSw; (try dsimp only at hSw); go_simp; try with_reducible rfl)
      simp only [Act.put, List.getElem_toArray, List.getElem_cons_zero, List.getElem_cons_succ, List.setIfInBounds_toArray, List.set_cons_zero, List.set_cons_succ]
      refine wpAnyH_take (i := 13) (v := ?_) rfl (by kernel_rfl) (by kernel_rfl) (by kernel_rfl) (fun _ _ _ h => h) (Or.inl ⟨by rfl, ?_⟩) (by assumption) ?_
      rotate_left
      · (intro w hSw; (try dsimp only at hSw); go_simp; try with_reducible rfl)
      simp only [Act.put, List.getElem_toArray, List.getElem_cons_zero, List.getElem_cons_succ, List.setIfInBounds_toArray, List.set_cons_zero, List.set_cons_succ]
      refine wpAnyH_take (i := 14) (v := ?_) rfl (by kernel_rfl) (by kernel_rfl) (by kernel_rfl) (fun _ _ _ h => h) (Or.inl ⟨by rfl, ?_⟩) (by assumption) ?_
      rotate_left
      · (intro w hSw; (try dsimp only at hSw); go_simp; try with_reducible rfl)
      simp only [Act.put, List.getElem_toArray, List.getElem_cons_zero, List.getElem_cons_succ, List.setIfInBounds_toArray, List.set_cons_zero, List.set_cons_succ]
      refine wpAnyH_ready (rs := [4]) (by kernel_rfl) (by simp) ?_
      refine AllReadyH.cons rfl (fun K hK => ?_) AllReadyH.nil
      go_simp
      refine (HC0.out _ (Below.drew (Below.refl w3.heap.size w3))).mono ?_
      rintro e y1 ⟨rfl, hy1⟩
      have HC1 : Hid (Below w3.heap.size w3 y1) := (Below.drew (Below.refl w3.heap.size w3)).trans (hy1.mono (Nat.le_refl _))
      clear hy1
      try unfold dv
      go_wp2_with fail
      refine hK.out _ _ (HCZ.out _ HC1.out) (fun hHeld2 => ?_)
      clear hK K
      refine wpAnyH_ready (rs := [10]) (by kernel_rfl) (by simp) ?_
      refine AllReadyH.cons rfl (fun K hK => ?_) AllReadyH.nil
      go_simp
      refine (HCA.out _ HC1.out).mono ?_
      rintro e y2 ⟨rfl, hy2⟩
      have HC2 : Hid (Below w3.heap.size w3 y2) := HC1.out.trans (hy2.mono HC1.out.size)
      clear hy2
      try unfold dv
      go_wp2_with fail
      refine hK.out _ _ (HCZ.out _ HC2.out) (fun hHeld2 => ?_)
      clear hK K
      refine wpAnyH_ready (rs := [15]) (by kernel_rfl) (by simp) ?_
      refine AllReadyH.cons rfl (fun K hK => ?_) AllReadyH.nil
      go_simp
      refine (HCB.out _ HC2.out).mono ?_
      rintro e y3 ⟨rfl, hy3⟩
      have HC3 : Hid (Below w3.heap.size w3 y3) := HC2.out.trans (hy3.mono HC2.out.size)
      clear hy3
      try unfold dv
      go_wp2_with fail
      refine hK.out _ _ (HCZ.out _ HC3.out) (fun hHeld2 => ?_)
      clear hK K
      refine wpAnyH_ready (rs := [16]) (by kernel_rfl) (by simp) ?_
      refine AllReadyH.cons rfl (fun K hK => ?_) AllReadyH.nil
      go_simp
      refine (HCN.out _ HC3.out).mono ?_
      rintro e y4 ⟨rfl, hy4⟩
      have HC4 : Hid (Below w3.heap.size w3 y4) := HC3.out.trans (hy4.mono HC3.out.size)
      clear hy4
      try unfold dv
      go_wp2_with fail
      refine hK.out _ _ (HCZ.out _ HC4.out) (fun hHeld2 => ?_)
      clear hK K
      refine wpAnyH_take (i := 17) (v := ?_) rfl (by kernel_rfl) (by kernel_rfl) (by kernel_rfl) (fun _ _ _ h => h) (Or.inl ⟨by rfl, ?_⟩) (by assumption) ?_
      rotate_left
      · (intro w hSw; (try dsimp only at hSw); go_simp; try with_reducible rfl)
      simp only [Act.put, List.getElem_toArray, List.getElem_cons_zero, List.getElem_cons_succ, List.setIfInBounds_toArray, List.set_cons_zero, List.set_cons_succ]
      refine wpAnyH_take (i := 18) (v := ?_) rfl (by kernel_rfl) (by kernel_rfl) (by kernel_rfl) (fun _ _ _ h => h) (Or.inl ⟨by rfl, ?_⟩) (by assumption) ?_
      rotate_left
      · (intro w hSw; (try dsimp only at hSw); go_simp; try with_reducible rfl)
      simp only [Act.put, List.getElem_toArray, List.getElem_cons_zero, List.getElem_cons_succ, List.setIfInBounds_toArray, List.set_cons_zero, List.set_cons_succ]
      refine wpAnyH_take (i := 19) (v := ?_) rfl (by kernel_rfl) (by kernel_rfl) (by kernel_rfl) (fun _ _ _ h => h) (Or.inl ⟨by rfl, ?_⟩) (by assumption) ?_
      rotate_left
      · (intro w hSw; (try dsimp only at hSw); go_simp; try with_reducible rfl)
      simp only [Act.put, List.getElem_toArray, List.getElem_cons_zero, List.getElem_cons_succ, List.setIfInBounds_toArray, List.set_cons_zero, List.set_cons_succ]
      refine wpAnyH_done (by kernel_rfl) ?_ _
      clear hS hHeld2
      go_wp2_with fail
      go_ret
      exact ⟨rfl, HBW.out _ HC4.out⟩
end Go.Proofs.YtaebpnednhkfhaaDoor
