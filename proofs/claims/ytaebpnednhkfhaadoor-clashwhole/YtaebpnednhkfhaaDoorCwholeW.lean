/-
  The walk of marlstonelaw06.ClashWhole.
-/
import Derived.Test.YtaebpnednhkfhaaDoorListsW
namespace Go.Proofs.YtaebpnednhkfhaaDoor
open Go.RowKit
set_option maxRecDepth 100000 in
set_option maxHeartbeats 20000000 in
theorem cwhole_walk (z : Int) (a0 : Option Addr) (n0 c0 : Nat) (b off : Nat) (ps : List PP) (x : Int) (a02 : Option Addr) (n02 c02 : Nat) (b2 off2 : Nat) (ps2 : List PP) (pa : Option Addr) (pn pc : Nat) (ds : List (List UInt8)) (w : World) (hP : Pieces w b off ps) (hn : ps.length = n0) (ha : 0 < n0 → a0 = some ⟨b, off, none⟩) (hP2 : Pieces w b2 off2 ps2) (hn2 : ps2.length = n02) (ha2 : 0 < n02 → a02 = some ⟨b2, off2, none⟩) (hK : WW w 0 ks) (h0 : 0 < w.heap.size) (hz : -9223372036854775808 ≤ z ∧ z ≤ 9223372036854775807)
    (hPt : PathV w pa ds) (hpl : ds.length = pn) (hpc : pn ≤ pc) (hpm : pc ≤ 9223372036854775807) :
    Calls Tryd.prog 16 #[.int .i64 z, .slice a0 n0 c0, .int .i64 x, .slice a02 n02 c02, .slice pa pn pc] w fun e w' => e = .returned (.bool true) ∧ Below w.heap.size w w' := by
  have HPT : Hid (∀ W, Below w.heap.size w W → PathV W pa ds) := fun W hW => hPt.below hW (Nat.le_refl _)
  have HFX : Hid (ds.length = pn ∧ pn ≤ pc ∧ pc ≤ 9223372036854775807) := ⟨hpl, hpc, hpm⟩
  have HD32 : Hid (∀ e ∈ ds, e.length = 32) := hPt.1
  clear hPt hpl hpc hpm
  have HKW : Hid (WW w 0 ks ∧ 0 < w.heap.size) := ⟨hK, h0⟩
  have HSH : Hid (∀ W, Below w.heap.size w W → Calls Tryd.prog 46 #[] W fun e w' => e = .returned (.bool true) ∧ Below W.heap.size W w') := fun W hW => shown6_any W (hK.below hW h0) (Nat.lt_of_lt_of_le h0 hW.size)
  have HSM : Hid (∀ W, Below w.heap.size w W → Calls Tryd.prog 47 #[.slice a0 n0 c0] W fun e w' => ∃ ao' n' c', e = .returned (.slice ao' n' c') ∧ CutV w' ao' n' c' (cutL ps 40 100) ∧ n' ≤ 40 ∧ Below W.heap.size W w') := fun W hW => small6_any b off n0 c0 a0 ps W (hP.below hW (Nat.le_refl _)) hn ha
  have HSM2 : Hid (∀ W, Below w.heap.size w W → Calls Tryd.prog 47 #[.slice a02 n02 c02] W fun e w' => ∃ ao' n' c', e = .returned (.slice ao' n' c') ∧ CutV w' ao' n' c' (cutL ps2 40 100) ∧ n' ≤ 40 ∧ Below W.heap.size W w') := fun W hW => small6_any b2 off2 n02 c02 a02 ps2 W (hP2.below hW (Nat.le_refl _)) hn2 ha2
  have HZ : Hid (-9223372036854775808 ≤ z ∧ z ≤ 9223372036854775807) := hz
  clear hP hn ha hP2 hn2 ha2 hK h0 hz
  go_enter Tryd.func16, Tryd.ntmps16
  go_wp2_with fail
  refine (HSH.out _ (Below.refl _ _)).mono ?_
  rintro e w1 ⟨rfl, hb1⟩
  have HB1 : Hid (Below w.heap.size w w1) := hb1
  clear hb1
  go_wp2_with fail
  refine (HSM.out _ HB1.out).mono ?_
  rintro e w2a ⟨ao, n, c, rfl, ⟨ls, hL, hE⟩, hn40, hb2⟩
  have HLV0 : Hid (LeavesV w2a ao n c ls) := hL
  have HN40 : Hid (n ≤ 40) := hn40
  have HB2a : Hid (Below w.heap.size w w2a) := HB1.out.trans (hb2.mono HB1.out.size)
  clear hL hE hn40 hb2
  go_wp2_with fail
  refine (HSM2.out _ HB2a.out).mono ?_
  rintro e w2 ⟨qo, qn, qc, rfl, ⟨qs, hL, hE⟩, hn40, hb2⟩
  have HLV : Hid (LeavesV w2 ao n c ls) := HLV0.out.below hb2 (Nat.le_refl _)
  have HQV : Hid (LeavesV w2 qo qn qc qs) := hL
  have HQ40 : Hid (qn ≤ 40) := hn40
  have HB2 : Hid (Below w.heap.size w w2) := HB2a.out.trans (hb2.mono HB2a.out.size)
  have HKB : Hid (∀ W, Below w2.heap.size w2 W → WW W 0 ks ∧ 0 < W.heap.size) := fun W hW => by
    have h1 := HB2.out.trans (hW.mono HB2.out.size)
    exact ⟨HKW.out.1.below h1 HKW.out.2, Nat.lt_of_lt_of_le HKW.out.2 h1.size⟩
  clear hL hE hn40 hb2 HB1 HSH HSM HSM2 HB2a HLV0
  obtain ⟨w3, HW3⟩ : ∃ W, Hid (w2.alloc (Obj.cells #[Value.int IntKind.i64 z] 30) = W) := ⟨_, rfl⟩
  have HB3 : Hid (Below w2.heap.size w2 w3) := by show Below _ _ _; rw [← HW3.out]; exact bel_alloc _ _
  have HN3 : Hid (w3.heap[w2.heap.size]? = some (.cells #[Value.int IntKind.i64 z] 30 (0, 0))) := by show _ = _; rw [← HW3.out]; exact heap_alloc_new _ _
  have HKB3 : Hid (∀ W, Below w3.heap.size w3 W → WW W 0 ks ∧ 0 < W.heap.size) := fun W hW => HKB.out W (HB3.out.trans (hW.mono HB3.out.size))
  have HLV3 : Hid (∀ W, Below w3.heap.size w3 W → LeavesV W ao n c ls) := fun W hW => (HLV.out.below HB3.out (Nat.le_refl _)).below hW (Nat.le_refl _)
  have HBW : Hid (∀ W, Below w3.heap.size w3 W → Below w.heap.size w W) := fun W hW => HB2.out.trans ((HB3.out.trans (hW.mono HB3.out.size)).mono HB2.out.size)
  have HNC : Hid (n ≤ c ∧ c ≤ 9223372036854775807) := ⟨HLV.out.2.1, HLV.out.2.2.1⟩
  have HCZ : Hid (∀ W, Below w3.heap.size w3 W → W.cell? ⟨w2.heap.size, 0, none⟩ = some (.int .i64 z)) := fun W hW => bel_cell2 hW (Nat.le_refl _) (by rw [cell_of_row w3 _ 0 _ _ _ HN3.out]; rfl)
  have HLN : Hid (ls.length = n ∧ qs.length = qn) := ⟨HLV.out.1, HQV.out.1⟩
  have HQV3 : Hid (∀ W, Below w3.heap.size w3 W → LeavesV W qo qn qc qs) := fun W hW => (HQV.out.below HB3.out (Nat.le_refl _)).below hW (Nat.le_refl _)
  obtain ⟨o, HO⟩ : ∃ o, Hid (ofR z ls qs x ds = o) := ⟨_, rfl⟩
  obtain ⟨ck, HCK⟩ : ∃ b, Hid (crB z (rootD z (bytesL ls)) n x qs ds = b) := ⟨_, rfl⟩
  have HOF : Hid (∀ W, Below w3.heap.size w3 W → Calls Tryd.prog 52 #[.agg #[.int .i64 z], .slice ao n c, .int .i64 x, .slice qo qn qc, .slice pa pn pc] W fun e w' => AnsR o e w' ∧ Below W.heap.size W w') := fun W hW => by
    have h := ofRange_any z ao n c ls x qo qn qc qs pa pn pc ds W (HLV3.out W hW) (by have := HN40.out; omega) (HQV3.out W hW) (by have := HQ40.out; omega) (HPT.out W (HBW.out W hW)) HFX.out.1 HFX.out.2.1 (HKB3.out W hW).1 (HKB3.out W hW).2 HZ.out
    rw [HO.out] at h; exact h
  have HRO : Hid (∀ W, Below w3.heap.size w3 W → Calls Tryd.prog 23 #[.agg #[.int .i64 z], .slice ao n c] W fun e w' => e = .returned (.agg (cellsOf (rootD z (bytesL ls))).toArray) ∧ Below W.heap.size W w') := fun W hW => root_any z HZ.out n ao c ls W (HLV3.out W hW) (by have := HN40.out; omega) (HKB3.out W hW).1 (HKB3.out W hW).2
  have HCC : Hid (∀ W, Below w3.heap.size w3 W → Calls Tryd.prog 43 #[.agg #[.int .i64 z], .agg (cellsOf (rootD z (bytesL ls))).toArray, .int .i64 (n : Int), .int .i64 x, .slice qo qn qc, .slice pa pn pc] W fun e w' => e = .returned (.bool ck) ∧ Below W.heap.size W w') := fun W hW => by
    have h := crange_any z (rootD z (bytesL ls)) n x qo qn qc qs pa pn pc ds W (rootD_length _ _) (by have := HN40.out; omega) HFX.out.1 HFX.out.2.1 (HPT.out W (HBW.out W hW)) (HQV3.out W hW) (by have := HQ40.out; omega) (HKB3.out W hW).1 (HKB3.out W hW).2 HZ.out
    rw [HCK.out] at h; exact h
  have HCF : Hid (ck = false → o = none) := fun h => by
    rw [← HO.out]; exact ofR_no z ls qs x ds (by rw [HLN.out.1, HCK.out]; exact h)
  have HCT : Hid (ck = true → ∃ i : Nat, x = (i : Int) ∧ 0 < qn ∧ i + qn ≤ n ∧ (∀ a b, o = some (a, b) → a ≠ b ∧ keptZ z a = keptZ z b) ∧ (o = none → (∀ j, j < qn → bsAt qs j = bsAt ls (i + j)) ∧ ds = rangeD z ls (i : Int) ((i + qn : Nat) : Int)) ∧ ((∀ j, j < qn → bsAt qs j = bsAt ls (i + j)) → ds = rangeD z ls (i : Int) ((i + qn : Nat) : Int) → o = none)) := fun h => by
    have h2 := ofR_sound z ls qs x ds (by have := HN40.out; have := HLN.out; omega) HD32.out (by rw [HLN.out.1, HCK.out]; exact h)
    rw [HO.out, HLN.out.1, HLN.out.2] at h2; exact h2
  obtain ⟨rt, HRT⟩ : ∃ d, Hid (rootD z (bytesL ls) = d) := ⟨_, rfl⟩
  rw [HRT.out] at HRO HCC
  have hcz := HCZ.out _ (Below.refl _ _)
  go_wp2_with fail
  rw [HW3.out]
  clear hcz
  refine (HOF.out _ (Below.refl _ _)).mono ?_
  rintro e w4 ⟨⟨xa, xn, xc, ya, yn, yc, rfl, t1, t2⟩, hb4⟩
  have HB4 : Hid (Below w3.heap.size w3 w4) := hb4
  have HT4 : Hid (∀ W, Below w4.heap.size w4 W → TxV W xa xn xc (oA o) ∧ TxV W ya yn yc (oB o)) := fun W hW => ⟨t1.below hW (Nat.le_refl _), t2.below hW (Nat.le_refl _)⟩
  have HW4 : Hid (∀ W, Below w4.heap.size w4 W → Below w3.heap.size w3 W) := fun W hW => HB4.out.trans (hW.mono HB4.out.size)
  have HS4 : Hid (∀ W, Below w4.heap.size w4 W → W.cell? ⟨w2.heap.size, 0, none⟩ = some (.int .i64 z)) := fun W hW => HCZ.out W (HW4.out W hW)
  clear t1 t2 hb4 HOF HW3
  go_upto_region 6 with fail
  refine wp_region_held_drew (S := fun W => W.cell? ⟨w2.heap.size, 0, none⟩ = some (.int .i64 z)) (by kernel_rfl) (HS4.out _ (Below.drew (Below.refl _ _))) (fun hS => ?_)
  refine wpAnyH_take (i := 0) (v := ?_) rfl (by kernel_rfl) (by kernel_rfl) (by kernel_rfl) (fun _ _ _ h => h) (Or.inl ⟨by rfl, ?_⟩) (by assumption) ?_
  rotate_left
  · (intro w hSw; (try dsimp only at hSw); go_simp; try with_reducible rfl)
  simp only [Act.put, List.getElem_toArray, List.getElem_cons_zero, List.setIfInBounds_toArray, List.set_cons_zero, List.set_cons_succ]
  refine wpAnyH_take (i := 1) (v := ?_) rfl (by kernel_rfl) (by kernel_rfl) (by kernel_rfl) (fun _ _ _ h => h) (Or.inl ⟨by rfl, ?_⟩) (by assumption) ?_
  rotate_left
  · (intro w hSw; (try dsimp only at hSw); go_simp; try with_reducible rfl)
  simp only [Act.put, List.getElem_toArray, List.getElem_cons_zero, List.getElem_cons_succ, List.setIfInBounds_toArray, List.set_cons_zero, List.set_cons_succ]
  refine wpAnyH_take (i := 2) (v := ?_) rfl (by kernel_rfl) (by kernel_rfl) (by kernel_rfl) (fun _ _ _ h => h) (Or.inl ⟨by rfl, ?_⟩) (by assumption) ?_
  rotate_left
  · (intro w hSw; (try dsimp only at hSw); go_simp; try with_reducible rfl)
  simp only [Act.put, List.getElem_toArray, List.getElem_cons_zero, List.getElem_cons_succ, List.setIfInBounds_toArray, List.set_cons_zero, List.set_cons_succ]
  refine wpAnyH_take (i := 4) (v := ?_) rfl (by kernel_rfl) (by kernel_rfl) (by kernel_rfl) (fun _ _ _ h => h) (Or.inl ⟨by rfl, ?_⟩) (by assumption) ?_
  rotate_left
  · (intro w hSw; (try dsimp only at hSw); go_simp; try with_reducible rfl)
  simp only [Act.put, List.getElem_toArray, List.getElem_cons_zero, List.getElem_cons_succ, List.setIfInBounds_toArray, List.set_cons_zero, List.set_cons_succ]
  refine wpAnyH_take (i := 5) (v := ?_) rfl (by kernel_rfl) (by kernel_rfl) (by kernel_rfl) (fun _ _ _ h => h) (Or.inl ⟨by rfl, ?_⟩) (by assumption) ?_
  rotate_left
  · (intro w hSw; (try dsimp only at hSw); go_simp; try with_reducible rfl)
  simp only [Act.put, List.getElem_toArray, List.getElem_cons_zero, List.getElem_cons_succ, List.setIfInBounds_toArray, List.set_cons_zero, List.set_cons_succ]
  refine wpAnyH_take (i := 6) (v := ?_) rfl (by kernel_rfl) (by kernel_rfl) (by kernel_rfl) (fun _ _ _ h => h) (Or.inl ⟨by rfl, ?_⟩) (by assumption) ?_
  rotate_left
  · (intro w hSw; (try dsimp only at hSw); go_simp; try with_reducible rfl)
  simp only [Act.put, List.getElem_toArray, List.getElem_cons_zero, List.getElem_cons_succ, List.setIfInBounds_toArray, List.set_cons_zero, List.set_cons_succ]
  refine wpAnyH_take (i := 7) (v := ?_) rfl (by kernel_rfl) (by kernel_rfl) (by kernel_rfl) (fun _ _ _ h => h) (Or.inl ⟨by rfl, ?_⟩) (by assumption) ?_
  rotate_left
  · (intro w hSw; (try dsimp only at hSw); go_simp; try with_reducible rfl)
  simp only [Act.put, List.getElem_toArray, List.getElem_cons_zero, List.getElem_cons_succ, List.setIfInBounds_toArray, List.set_cons_zero, List.set_cons_succ]
  refine wpAnyH_take (i := 8) (v := ?_) rfl (by kernel_rfl) (by kernel_rfl) (by kernel_rfl) (fun _ _ _ h => h) (Or.inl ⟨by rfl, ?_⟩) (by assumption) ?_
  rotate_left
  · (intro w hSw; (try dsimp only at hSw); go_simp; try with_reducible rfl)
  simp only [Act.put, List.getElem_toArray, List.getElem_cons_zero, List.getElem_cons_succ, List.setIfInBounds_toArray, List.set_cons_zero, List.set_cons_succ]
  refine wpAnyH_ready (rs := [3]) (by kernel_rfl) (by simp) ?_
  refine AllReadyH.cons rfl (fun K hK => ?_) AllReadyH.nil
  go_simp
  refine (HRO.out _ (HW4.out _ (Below.drew (Below.refl _ _)))).mono ?_
  rintro e w5 ⟨rfl, hb5⟩
  have HB5 : Hid (Below w4.heap.size w4 w5) := (Below.drew (Below.refl _ _)).trans hb5
  go_wp2_with fail
  refine hK.out _ _ (HS4.out _ HB5.out) (fun hHeld2 => ?_)
  clear hK K hb5
  refine wpAnyH_ready (rs := [9]) (by kernel_rfl) (by simp) ?_
  refine AllReadyH.cons rfl (fun K hK => ?_) AllReadyH.nil
  go_simp
  refine (HCC.out _ (HW4.out _ HB5.out)).mono ?_
  rintro e w6 ⟨rfl, hb6⟩
  have HB6 : Hid (Below w4.heap.size w4 w6) := HB5.out.trans (hb6.mono HB5.out.size)
  go_wp2_with fail
  refine hK.out _ _ (HS4.out _ HB6.out) (fun hHeld3 => ?_)
  clear hK K hb6 hHeld2
  refine wpAnyH_take (i := 10) (v := ?_) rfl (by kernel_rfl) (by kernel_rfl) (by kernel_rfl) (fun _ _ _ h => h) (Or.inl ⟨by rfl, ?_⟩) (by assumption) ?_
  rotate_left
  · (intro w hSw; (try dsimp only at hSw); go_simp; try with_reducible rfl)
  simp only [Act.put, List.getElem_toArray, List.getElem_cons_zero, List.getElem_cons_succ, List.setIfInBounds_toArray, List.set_cons_zero, List.set_cons_succ]
  refine wpAnyH_done (by kernel_rfl) ?_ _
  clear hS hHeld3 HRO HCC
  cases ck with
  | false =>
    have HON : Hid (o = none) := HCF.out (by first | rfl | trivial)
    have hoS : o.isSome = false := by rw [HON.out]; rfl
    have HX0 : Hid (xn = 0 ∧ yn = 0) := by
      obtain ⟨q1, q2⟩ := HT4.out _ (Below.refl _ _)
      rw [HON.out] at q1 q2
      exact ⟨q1.1.1.symm, q2.1.1.symm⟩
    have hx0 : ((xn : Int) == 0) = true := by rw [HX0.out.1]; rfl
    have hy0 : ((yn : Int) == 0) = true := by rw [HX0.out.2]; rfl
    have hx1 : (xn : Int) = 0 := by rw [HX0.out.1]; rfl
    have hy1 : (yn : Int) = 0 := by rw [HX0.out.2]; rfl
    clear HCT HCF HON HX0 HO HCK HRT
    go_wp2_with fail
    go_ret
    exact ⟨rfl, HBW.out _ (HW4.out _ HB6.out)⟩
  | true =>
    obtain ⟨i, hxi, hq0, hin, hcl, hn1, hn2⟩ := HCT.out (by first | rfl | trivial)
    have HCL : Hid (∀ a b, o = some (a, b) → a ≠ b ∧ keptZ z a = keptZ z b) := hcl
    subst hxi
    obtain ⟨R, HR⟩ : ∃ P, Hid (rangeD z ls (i : Int) ((i + qn : Nat) : Int) = P) := ⟨_, rfl⟩
    rw [HR.out] at hn1 hn2
    have HN1 : Hid (o = none → (∀ j, j < qn → bsAt qs j = bsAt ls (i + j)) ∧ ds = R) := hn1
    have HN2 : Hid ((∀ j, j < qn → bsAt qs j = bsAt ls (i + j)) → ds = R → o = none) := hn2
    have HIN : Hid (0 < qn ∧ i + qn ≤ n ∧ n ≤ 40) := ⟨hq0, hin, HN40.out⟩
    have HRE : Hid (rangeE n (i : Int) ((i + qn : Nat) : Int) = 0) := if_pos (by omega)
    obtain ⟨u, HU⟩ : ∃ u : Nat, Hid (i + qn = u) := ⟨_, rfl⟩
    rw [HU.out] at HRE HR
    have HRA : Hid (∀ W, Below w4.heap.size w4 W → Calls Tryd.prog 35 #[.agg #[.int .i64 z], .slice ao n c, .int .i64 (i : Int), .int .i64 (u : Int)] W fun e w' => ∃ v, e = .returned (.tuple #[v, .int .i64 0]) ∧ DgV w' W.heap.size v R ∧ Below W.heap.size W w') := fun W hW => by
      have h := range_any z ao n c ls (i : Int) (u : Int) W (HLV3.out W (HW4.out W hW)) (by have := HN40.out; omega) (HKB3.out W (HW4.out W hW)).1 (HKB3.out W (HW4.out W hW)).2 HZ.out
      rw [HRE.out, HR.out] at h; exact h
    have HRN : Hid (R.length ≤ 127) := by
      show _ ≤ _
      have h := HIN.out
      have hu := HU.out
      have hl := HLN.out
      rw [← HR.out, rangeD_in z ls i u (by omega) (by omega), besideD, List.length_map]
      exact outL_len (by omega) (by omega) (by omega)
    clear hq0 hcl hn1 hn2 HCT HCF
    have hi0 : ¬ (i : Int) < 0 := by omega
    have hi1 : ¬ (n : Int) < (i : Int) := by omega
    have hi1d : decide ((n : Int) < (i : Int)) = false := by simp; omega
    have hi1n : decide (n < i) = false := by simp; omega
    obtain ⟨t, HT⟩ : ∃ t : Nat, Hid (n - i = t) := ⟨_, rfl⟩
    have hsb : wrap64 ((n : Int) - (i : Int)) = (t : Int) := by rw [← HT.out]; exact wsub (by have := HIN.out; omega) (by have := HIN.out; omega)
    have hsb2 : IntKind.i64.wrap ((n : Int) - (i : Int)) = (t : Int) := (IntWalk.i64_left _).trans hsb
    have hqt : ¬ (t : Int) < (qn : Int) := by have := HT.out; have := HIN.out; omega
    have hqtd : decide ((t : Int) < (qn : Int)) = false := by have := HT.out; have := HIN.out; simp; omega
    have hqtn : decide (t < qn) = false := by have := HT.out; have := HIN.out; simp; omega
    have had : wrap64 ((i : Int) + (qn : Int)) = (u : Int) := by rw [← HU.out]; exact wadd (n := n) (by have := HIN.out; omega) (by have := HIN.out; omega)
    have hcz := HS4.out _ HB6.out
    clear hin
    go_wp2_with fail
    clear hcz hi0 hi1 hi1d hi1n hsb hsb2 hqt hqtd hqtn
    clear had
    refine (HRA.out _ HB6.out).mono ?_
    rintro e w7 ⟨v, rfl, hd7, hb7⟩
    have HB7 : Hid (Below w4.heap.size w4 w7) := HB6.out.trans (hb7.mono HB6.out.size)
    obtain ⟨aop, cp, rfl, -, -, hPV, -⟩ := hd7.path
    have HSM : Hid (Calls Tryd.prog 37 #[.slice aop R.length cp, .slice pa pn pc] w7 fun e w' => e = .returned (.bool (R == ds)) ∧ Below w7.heap.size w7 w') := by
      have h := same_any aop cp R pa pc ds w7 hPV (HPT.out _ (HBW.out _ (HW4.out _ HB7.out))) (by have := HRN.out; omega)
      rw [HFX.out.1] at h; exact h
    clear hd7 hb7 hPV
    obtain ⟨sm, HSB⟩ : ∃ b, Hid ((R == ds) = b) := ⟨_, rfl⟩
    rw [HSB.out] at HSM
    obtain ⟨k, HK⟩ : ∃ k : Nat, Hid (R.length = k) := ⟨_, rfl⟩
    simp only [HK.out] at HSM ⊢
    go_wp2_with fail
    refine Calls.mono HSM.out ?_
    rintro e w8 ⟨rfl, hb8⟩
    have HB8 : Hid (Below w4.heap.size w4 w8) := HB7.out.trans (hb8.mono HB7.out.size)
    clear hb8 HSM HRA
    go_wp2_with fail
    go_loopw [18, 19] (fun s18 s19 wr => ∃ (j : Nat) (t : Bool), s19 = .int .i64 j ∧ s18 = .bool t ∧ j ≤ qn ∧ Hid (((∀ j, j < qn → bsAt qs j = bsAt ls (i + j)) ∧ ds = R) → t = true) ∧ Hid (t = true → ds = R ∧ ∀ k, k < j → bsAt qs k = bsAt ls (i + k)) ∧ Hid (Below w4.heap.size w4 wr)) (fun _ x _ => qn - (intOf x).toNat)
    case atStart =>
      refine ⟨0, sm, rfl, rfl, Nat.zero_le _, fun h => ?_, fun h => ?_, HB8⟩
      · rw [← HSB.out, h.2, beq_self_eq_true]
      · refine ⟨?_, fun k hk => absurd hk (by omega)⟩
        rw [← HSB.out] at h
        exact (eq_of_beq h).symm
    case round =>
      obtain ⟨j, tb, rfl, rfl, hjq, HI1, HI2, HBR⟩ := hrel
      by_cases hj : j < qn
      case neg =>
        have hjz : ¬ (j : Int) < (qn : Int) := by omega
        have HJQ : Hid (j = qn) := by show _ = _; omega
        clear hj hjq
        cases tb with
        | true =>
          have HON : Hid (o = none) := HN2.out (fun k hk => (HI2.out rfl).2 k (by rw [HJQ.out]; exact hk)) (HI2.out rfl).1
          have hoS : o.isSome = false := by rw [HON.out]; rfl
          have HX0 : Hid (xn = 0 ∧ yn = 0) := by
            obtain ⟨q1, q2⟩ := HT4.out _ (Below.refl _ _)
            rw [HON.out] at q1 q2
            exact ⟨q1.1.1.symm, q2.1.1.symm⟩
          have hx0 : ((xn : Int) == 0) = true := by rw [HX0.out.1]; rfl
          have hy0 : ((yn : Int) == 0) = true := by rw [HX0.out.2]; rfl
          have hx1 : (xn : Int) = 0 := by rw [HX0.out.1]; rfl
          have hy1 : (yn : Int) = 0 := by rw [HX0.out.2]; rfl
          clear HN1 HN2 HCL HI1 HI2 HON HX0 HR HSB HO HCK HRT HJQ
          go_wp2_with fail
          go_ret
          exact ⟨rfl, HBW.out _ (HW4.out _ HBR.out)⟩
        | false =>
          have HEX : Hid (∃ x y, o = some (x, y) ∧ x ≠ y ∧ keptZ z x = keptZ z y) := by
            cases ho : o with
            | none => exact absurd (HI1.out (HN1.out ho)) (by simp)
            | some p => exact ⟨p.1, p.2, rfl, HCL.out p.1 p.2 ho⟩
          clear HN1 HN2 HCL HI1 HI2 HR HSB HO HCK HRT HJQ
          obtain ⟨x, y, ho, hxy0, hxk0⟩ := HEX.out
          have HON : Hid (o = some (x, y)) := ho
          have hoS : o.isSome = true := by rw [HON.out]; rfl
          clear ho
          have HXY : Hid (x ≠ y) := hxy0
          have HXK : Hid (keptZ z x = keptZ z y) := hxk0
          clear hxy0 hxk0
          have HTX : Hid (∀ W, Below w4.heap.size w4 W → TxV W xa xn xc x ∧ TxV W ya yn yc y) := fun W hW => by have h := HT4.out W hW; rw [HON.out] at h; exact h
          have sa := str_bytes xc (HTX.out _ HBR.out).1.1
          have sb := str_bytes yc (HTX.out _ HBR.out).2.1
          have hxy : (x == y) = false := by rw [beq_eq_false_iff_ne]; exact HXY.out
          have hxz := HS4.out _ HBR.out
          have HOT : Hid (∀ W, Below w4.heap.size w4 W → Calls Tryd.prog 50 #[.agg #[.int .i64 z], .slice xa xn xc, .slice ya yn yc] W fun e w' => e = .returned (.bool true) ∧ Below W.heap.size W w') := fun W hW => by
            have h := ofTexts_any z xa xn xc x ya yn yc y W (HTX.out _ hW).1 (HTX.out _ hW).2 (HKB3.out _ (HW4.out _ hW)).1 (HKB3.out _ (HW4.out _ hW)).2 HZ.out
            rw [oft_true HXY.out HXK.out] at h; exact h
          clear HXY HXK HON HEX
          try clear hnzb hnzc hnzd
          try clear hiz
          try clear HLM HAL HAL2 HR HNE HLN
          go_wp2_with fail
          refine (HOT.out _ HBR.out).mono ?_
          rintro e wz ⟨rfl, hbz⟩
          have HBZ : Hid (Below w4.heap.size w4 wz) := HBR.out.trans (hbz.mono HBR.out.size)
          clear hbz sa sb hxy hxz
          go_wp2_with fail
          go_ret
          exact ⟨rfl, HBW.out _ (HW4.out _ HBZ.out)⟩
      case pos =>
        have hjz : (j : Int) < (qn : Int) := by omega
        obtain ⟨⟨pao, pn', pc', pbs⟩, HPF⟩ : ∃ p, Hid (qs[j]? = some p) := ⟨_, List.getElem?_eq_getElem (by have := HLN.out; omega)⟩
        obtain ⟨⟨rao, rn, rc, rbs⟩, HRF⟩ : ∃ p, Hid (ls[i + j]? = some p) := ⟨_, List.getElem?_eq_getElem (by have := HLN.out; have := HIN.out; omega)⟩
        obtain ⟨pb, pf, e1, -, -⟩ := (HQV3.out _ (HW4.out _ HBR.out)).at j _ HPF.out
        obtain ⟨rb, rf, e2, -, -⟩ := (HLV3.out _ (HW4.out _ HBR.out)).at (i + j) _ HRF.out
        subst e1 e2
        obtain ⟨ij, HIJ⟩ : ∃ x : Nat, Hid (i + j = x) := ⟨_, rfl⟩
        have HB1 : Hid (bsAt qs j = pbs ∧ bsAt ls (i + j) = rbs) := ⟨bsAt_some HPF.out, bsAt_some HRF.out⟩
        rw [HIJ.out] at HRF
        have hij : ij < n := by have := HIJ.out; have := HIN.out; omega
        have hijz : (ij : Int) < (n : Int) := by omega
        have hadj : wrap64 ((i : Int) + (j : Int)) = (ij : Int) := by rw [← HIJ.out]; exact wadd (n := n) (by have := HIN.out; omega) (by have := HIN.out; omega)
        have hadj2 : IntKind.i64.wrap ((i : Int) + (j : Int)) = (ij : Int) := (IntWalk.i64_left _).trans hadj
        have HS : Hid (∀ W, Below w4.heap.size w4 W → W.cell? ⟨pb, pf + j, none⟩ = some (.slice pao pn' pc') ∧ (convert 36 9 (.slice pao pn' pc')).run Tryd.prog W = .ok (.string ⟨pbs.toArray⟩) W ∧ W.cell? ⟨rb, rf + ij, none⟩ = some (.slice rao rn rc) ∧ (convert 36 9 (.slice rao rn rc)).run Tryd.prog W = .ok (.string ⟨rbs.toArray⟩) W) := fun W hW => by
          obtain ⟨b1, f1, e1, d1, d2⟩ := (HQV3.out _ (HW4.out _ hW)).at j _ HPF.out
          obtain ⟨b2, f2, e2, d3, d4⟩ := (HLV3.out _ (HW4.out _ hW)).at ij _ HRF.out
          cases e1
          cases e2
          exact ⟨d1, str_bytes pc' d2, d3, str_bytes rc d4⟩
        have hinc : wrap64 ((j : Int) + 1) = ((j + 1 : Nat) : Int) := winc (n := qn) (by omega) (by have := HQ40.out; omega)
        obtain ⟨q, HQ⟩ : ∃ b, Hid ((pbs == rbs) = b) := ⟨_, rfl⟩
        have hq := HQ.out
        clear hjq
        go_upto_region 17 with fail
        cases tb with
        | false =>
          refine wp_region_held_drew (S := fun _ => True) (by kernel_rfl) trivial (fun hS => ?_)
          refine wpAnyH_take (i := 0) (v := ?_) rfl (by kernel_rfl) (by kernel_rfl) (by kernel_rfl) (fun _ _ _ h => h) (Or.inl ⟨by rfl, ?_⟩) (by assumption) ?_
          rotate_left
          · (intro w hSw; (try dsimp only at hSw); go_simp; try with_reducible rfl)
          simp only [Act.put, List.getElem_toArray, List.getElem_cons_zero, List.setIfInBounds_toArray, List.set_cons_zero, List.set_cons_succ]
          refine wpAnyH_take (i := 1) (v := ?_) rfl (by kernel_rfl) (by kernel_rfl) (by kernel_rfl) (fun _ _ _ h => h) (Or.inl ⟨by rfl, ?_⟩) (by assumption) ?_
          rotate_left
          · (intro w hSw; (try dsimp only at hSw); go_simp; try with_reducible rfl)
          simp only [Act.put, List.getElem_toArray, List.getElem_cons_zero, List.getElem_cons_succ, List.setIfInBounds_toArray, List.set_cons_zero, List.set_cons_succ]
          refine wpAnyH_take (i := 2) (v := undef) rfl (by kernel_rfl) (by kernel_rfl) (by kernel_rfl) (fun _ _ _ h => h) (Or.inr ⟨by rfl, rfl⟩) (by assumption) ?_
          simp only [Act.put, List.getElem_toArray, List.getElem_cons_zero, List.getElem_cons_succ, List.setIfInBounds_toArray, List.set_cons_zero, List.set_cons_succ]
          refine wpAnyH_take (i := 3) (v := undef) rfl (by kernel_rfl) (by kernel_rfl) (by kernel_rfl) (fun _ _ _ h => h) (Or.inr ⟨by rfl, rfl⟩) (by assumption) ?_
          simp only [Act.put, List.getElem_toArray, List.getElem_cons_zero, List.getElem_cons_succ, List.setIfInBounds_toArray, List.set_cons_zero, List.set_cons_succ]
          refine wpAnyH_take (i := 4) (v := undef) rfl (by kernel_rfl) (by kernel_rfl) (by kernel_rfl) (fun _ _ _ h => h) (Or.inr ⟨by rfl, rfl⟩) (by assumption) ?_
          simp only [Act.put, List.getElem_toArray, List.getElem_cons_zero, List.getElem_cons_succ, List.setIfInBounds_toArray, List.set_cons_zero, List.set_cons_succ]
          refine wpAnyH_take (i := 5) (v := undef) rfl (by kernel_rfl) (by kernel_rfl) (by kernel_rfl) (fun _ _ _ h => h) (Or.inr ⟨by rfl, rfl⟩) (by assumption) ?_
          simp only [Act.put, List.getElem_toArray, List.getElem_cons_zero, List.getElem_cons_succ, List.setIfInBounds_toArray, List.set_cons_zero, List.set_cons_succ]
          refine wpAnyH_take (i := 6) (v := undef) rfl (by kernel_rfl) (by kernel_rfl) (by kernel_rfl) (fun _ _ _ h => h) (Or.inr ⟨by rfl, rfl⟩) (by assumption) ?_
          simp only [Act.put, List.getElem_toArray, List.getElem_cons_zero, List.getElem_cons_succ, List.setIfInBounds_toArray, List.set_cons_zero, List.set_cons_succ]
          refine wpAnyH_take (i := 7) (v := undef) rfl (by kernel_rfl) (by kernel_rfl) (by kernel_rfl) (fun _ _ _ h => h) (Or.inr ⟨by rfl, rfl⟩) (by assumption) ?_
          simp only [Act.put, List.getElem_toArray, List.getElem_cons_zero, List.getElem_cons_succ, List.setIfInBounds_toArray, List.set_cons_zero, List.set_cons_succ]
          refine wpAnyH_take (i := 8) (v := undef) rfl (by kernel_rfl) (by kernel_rfl) (by kernel_rfl) (fun _ _ _ h => h) (Or.inr ⟨by rfl, rfl⟩) (by assumption) ?_
          simp only [Act.put, List.getElem_toArray, List.getElem_cons_zero, List.getElem_cons_succ, List.setIfInBounds_toArray, List.set_cons_zero, List.set_cons_succ]
          refine wpAnyH_take (i := 9) (v := undef) rfl (by kernel_rfl) (by kernel_rfl) (by kernel_rfl) (fun _ _ _ h => h) (Or.inr ⟨by rfl, rfl⟩) (by assumption) ?_
          simp only [Act.put, List.getElem_toArray, List.getElem_cons_zero, List.getElem_cons_succ, List.setIfInBounds_toArray, List.set_cons_zero, List.set_cons_succ]
          refine wpAnyH_take (i := 10) (v := undef) rfl (by kernel_rfl) (by kernel_rfl) (by kernel_rfl) (fun _ _ _ h => h) (Or.inr ⟨by rfl, rfl⟩) (by assumption) ?_
          simp only [Act.put, List.getElem_toArray, List.getElem_cons_zero, List.getElem_cons_succ, List.setIfInBounds_toArray, List.set_cons_zero, List.set_cons_succ]
          refine wpAnyH_take (i := 11) (v := undef) rfl (by kernel_rfl) (by kernel_rfl) (by kernel_rfl) (fun _ _ _ h => h) (Or.inr ⟨by rfl, rfl⟩) (by assumption) ?_
          simp only [Act.put, List.getElem_toArray, List.getElem_cons_zero, List.getElem_cons_succ, List.setIfInBounds_toArray, List.set_cons_zero, List.set_cons_succ]
          refine wpAnyH_take (i := 12) (v := undef) rfl (by kernel_rfl) (by kernel_rfl) (by kernel_rfl) (fun _ _ _ h => h) (Or.inr ⟨by rfl, rfl⟩) (by assumption) ?_
          simp only [Act.put, List.getElem_toArray, List.getElem_cons_zero, List.getElem_cons_succ, List.setIfInBounds_toArray, List.set_cons_zero, List.set_cons_succ]
          refine wpAnyH_take (i := 13) (v := undef) rfl (by kernel_rfl) (by kernel_rfl) (by kernel_rfl) (fun _ _ _ h => h) (Or.inr ⟨by rfl, rfl⟩) (by assumption) ?_
          simp only [Act.put, List.getElem_toArray, List.getElem_cons_zero, List.getElem_cons_succ, List.setIfInBounds_toArray, List.set_cons_zero, List.set_cons_succ]
          refine wpAnyH_take (i := 14) (v := undef) rfl (by kernel_rfl) (by kernel_rfl) (by kernel_rfl) (fun _ _ _ h => h) (Or.inr ⟨by rfl, rfl⟩) (by assumption) ?_
          simp only [Act.put, List.getElem_toArray, List.getElem_cons_zero, List.getElem_cons_succ, List.setIfInBounds_toArray, List.set_cons_zero, List.set_cons_succ]
          refine wpAnyH_take (i := 15) (v := ?_) rfl (by kernel_rfl) (by kernel_rfl) (by kernel_rfl) (fun _ _ _ h => h) (Or.inl ⟨by rfl, ?_⟩) (by assumption) ?_
          rotate_left
          · (intro w hSw; (try dsimp only at hSw); go_simp; try with_reducible rfl)
          simp only [Act.put, List.getElem_toArray, List.getElem_cons_zero, List.getElem_cons_succ, List.setIfInBounds_toArray, List.set_cons_zero, List.set_cons_succ]
          refine wpAnyH_take (i := 16) (v := ?_) rfl (by kernel_rfl) (by kernel_rfl) (by kernel_rfl) (fun _ _ _ h => h) (Or.inl ⟨by rfl, ?_⟩) (by assumption) ?_
          rotate_left
          · (intro w hSw; (try dsimp only at hSw); go_simp; try with_reducible rfl)
          simp only [Act.put, List.getElem_toArray, List.getElem_cons_zero, List.getElem_cons_succ, List.setIfInBounds_toArray, List.set_cons_zero, List.set_cons_succ]
          refine wpAnyH_done (by kernel_rfl) ?_ _
          clear hS
          go_wp2_with fail
          refine ⟨⟨j + 1, false, by rw [hinc], rfl, by omega, fun h => HI1.out h, fun h => (by cases h), Below.drew HBR.out⟩, by rw [hinc]; simp [intOf]; omega⟩
        | true =>
          refine wp_region_held_drew (S := fun W => W.cell? ⟨pb, pf + j, none⟩ = some (.slice pao pn' pc') ∧ (convert 36 9 (.slice pao pn' pc')).run Tryd.prog W = .ok (.string ⟨pbs.toArray⟩) W ∧ W.cell? ⟨rb, rf + ij, none⟩ = some (.slice rao rn rc) ∧ (convert 36 9 (.slice rao rn rc)).run Tryd.prog W = .ok (.string ⟨rbs.toArray⟩) W) (by kernel_rfl) (HS.out _ (Below.drew HBR.out)) (fun hS => ?_)
          refine wpAnyH_take (i := 0) (v := ?_) rfl (by kernel_rfl) (by kernel_rfl) (by kernel_rfl) (fun _ _ _ h => h) (Or.inl ⟨by rfl, ?_⟩) (by assumption) ?_
          rotate_left
          · (intro w hSw; (try dsimp only at hSw); go_simp; try with_reducible rfl)
          simp only [Act.put, List.getElem_toArray, List.getElem_cons_zero, List.setIfInBounds_toArray, List.set_cons_zero, List.set_cons_succ]
          refine wpAnyH_take (i := 1) (v := ?_) rfl (by kernel_rfl) (by kernel_rfl) (by kernel_rfl) (fun _ _ _ h => h) (Or.inl ⟨by rfl, ?_⟩) (by assumption) ?_
          rotate_left
          · (intro w hSw; (try dsimp only at hSw); go_simp; try with_reducible rfl)
          simp only [Act.put, List.getElem_toArray, List.getElem_cons_zero, List.getElem_cons_succ, List.setIfInBounds_toArray, List.set_cons_zero, List.set_cons_succ]
          refine wpAnyH_take (i := 2) (v := ?_) rfl (by kernel_rfl) (by kernel_rfl) (by kernel_rfl) (fun _ _ _ h => h) (Or.inl ⟨by rfl, ?_⟩) (by assumption) ?_
          rotate_left
          · (intro w hSw; (try dsimp only at hSw); go_simp; try with_reducible rfl)
          simp only [Act.put, List.getElem_toArray, List.getElem_cons_zero, List.getElem_cons_succ, List.setIfInBounds_toArray, List.set_cons_zero, List.set_cons_succ]
          refine wpAnyH_take (i := 3) (v := ?_) rfl (by kernel_rfl) (by kernel_rfl) (by kernel_rfl) (fun _ _ _ h => h) (Or.inl ⟨by rfl, ?_⟩) (by assumption) ?_
          rotate_left
          · (intro w hSw; (try dsimp only at hSw); go_simp; try with_reducible rfl)
          simp only [Act.put, List.getElem_toArray, List.getElem_cons_zero, List.getElem_cons_succ, List.setIfInBounds_toArray, List.set_cons_zero, List.set_cons_succ]
          refine wpAnyH_take (i := 4) (v := ?_) rfl (by kernel_rfl) (by kernel_rfl) (by kernel_rfl) (fun _ _ _ h => h) (Or.inl ⟨by rfl, ?_⟩) (by assumption) ?_
          rotate_left
          · (intro w hSw; (try dsimp only at hSw); go_simp; try with_reducible rfl)
          simp only [Act.put, List.getElem_toArray, List.getElem_cons_zero, List.getElem_cons_succ, List.setIfInBounds_toArray, List.set_cons_zero, List.set_cons_succ]
          refine wpAnyH_take (i := 5) (v := ?_) rfl (by kernel_rfl) (by kernel_rfl) (by kernel_rfl) (fun _ _ _ h => h) (Or.inl ⟨by rfl, ?_⟩) (by assumption) ?_
          rotate_left
          · (intro w hSw; (try dsimp only at hSw); go_simp; try with_reducible rfl)
          simp only [Act.put, List.getElem_toArray, List.getElem_cons_zero, List.getElem_cons_succ, List.setIfInBounds_toArray, List.set_cons_zero, List.set_cons_succ]
          refine wpAnyH_take (i := 6) (v := ?_) rfl (by kernel_rfl) (by kernel_rfl) (by kernel_rfl) (fun _ _ _ h => h) (Or.inl ⟨by rfl, ?_⟩) (by assumption) ?_
          rotate_left
          · (intro w hSw; (try dsimp only at hSw); go_simp; try with_reducible rfl)
          simp only [Act.put, List.getElem_toArray, List.getElem_cons_zero, List.getElem_cons_succ, List.setIfInBounds_toArray, List.set_cons_zero, List.set_cons_succ]
          refine wpAnyH_take (i := 7) (v := ?_) rfl (by kernel_rfl) (by kernel_rfl) (by kernel_rfl) (fun _ _ _ h => h) (Or.inl ⟨by rfl, ?_⟩) (by assumption) ?_
          rotate_left
          · (intro w hSw; (try dsimp only at hSw); go_simp; try with_reducible rfl)
          simp only [Act.put, List.getElem_toArray, List.getElem_cons_zero, List.getElem_cons_succ, List.setIfInBounds_toArray, List.set_cons_zero, List.set_cons_succ]
          refine wpAnyH_take (i := 8) (v := ?_) rfl (by kernel_rfl) (by kernel_rfl) (by kernel_rfl) (fun _ _ _ h => h) (Or.inl ⟨by rfl, ?_⟩) (by assumption) ?_
          rotate_left
          · (intro w hSw; (try dsimp only at hSw); go_simp; try with_reducible rfl)
          simp only [Act.put, List.getElem_toArray, List.getElem_cons_zero, List.getElem_cons_succ, List.setIfInBounds_toArray, List.set_cons_zero, List.set_cons_succ]
          refine wpAnyH_take (i := 9) (v := ?_) rfl (by kernel_rfl) (by kernel_rfl) (by kernel_rfl) (fun _ _ _ h => h) (Or.inl ⟨by rfl, ?_⟩) (by assumption) ?_
          rotate_left
          · (intro w hSw; (try dsimp only at hSw); go_simp; try with_reducible rfl)
          simp only [Act.put, List.getElem_toArray, List.getElem_cons_zero, List.getElem_cons_succ, List.setIfInBounds_toArray, List.set_cons_zero, List.set_cons_succ]
          refine wpAnyH_take (i := 10) (v := ?_) rfl (by kernel_rfl) (by kernel_rfl) (by kernel_rfl) (fun _ _ _ h => h) (Or.inl ⟨by rfl, ?_⟩) (by assumption) ?_
          rotate_left
          · (intro w hSw; (try dsimp only at hSw); go_simp; try with_reducible rfl)
          simp only [Act.put, List.getElem_toArray, List.getElem_cons_zero, List.getElem_cons_succ, List.setIfInBounds_toArray, List.set_cons_zero, List.set_cons_succ]
          refine wpAnyH_take (i := 11) (v := ?_) rfl (by kernel_rfl) (by kernel_rfl) (by kernel_rfl) (fun _ _ _ h => h) (Or.inl ⟨by rfl, ?_⟩) (by assumption) ?_
          rotate_left
          · (intro w hSw; (try dsimp only at hSw); go_simp; try with_reducible rfl)
          simp only [Act.put, List.getElem_toArray, List.getElem_cons_zero, List.getElem_cons_succ, List.setIfInBounds_toArray, List.set_cons_zero, List.set_cons_succ]
          refine wpAnyH_take (i := 12) (v := ?_) rfl (by kernel_rfl) (by kernel_rfl) (by kernel_rfl) (fun _ _ _ h => h) (Or.inl ⟨by rfl, ?_⟩) (by assumption) ?_
          rotate_left
          · (intro w hSw; (try dsimp only at hSw); go_simp; try with_reducible rfl)
          simp only [Act.put, List.getElem_toArray, List.getElem_cons_zero, List.getElem_cons_succ, List.setIfInBounds_toArray, List.set_cons_zero, List.set_cons_succ]
          refine wpAnyH_take (i := 13) (v := ?_) rfl (by kernel_rfl) (by kernel_rfl) (by kernel_rfl) (fun _ _ _ h => h) (Or.inl ⟨by rfl, ?_⟩) (by assumption) ?_
          rotate_left
          · (intro w hSw; (try dsimp only at hSw); go_simp; try with_reducible rfl)
          simp only [Act.put, List.getElem_toArray, List.getElem_cons_zero, List.getElem_cons_succ, List.setIfInBounds_toArray, List.set_cons_zero, List.set_cons_succ]
          refine wpAnyH_take (i := 14) (v := ?_) rfl (by kernel_rfl) (by kernel_rfl) (by kernel_rfl) (fun _ _ _ h => h) (Or.inl ⟨by rfl, ?_⟩) (by assumption) ?_
          rotate_left
          · (intro w hSw; (try dsimp only at hSw); go_simp; try with_reducible rfl)
          simp only [Act.put, List.getElem_toArray, List.getElem_cons_zero, List.getElem_cons_succ, List.setIfInBounds_toArray, List.set_cons_zero, List.set_cons_succ]
          refine wpAnyH_take (i := 15) (v := ?_) rfl (by kernel_rfl) (by kernel_rfl) (by kernel_rfl) (fun _ _ _ h => h) (Or.inl ⟨by rfl, ?_⟩) (by assumption) ?_
          rotate_left
          · (intro w hSw; (try dsimp only at hSw); go_simp; try with_reducible rfl)
          simp only [Act.put, List.getElem_toArray, List.getElem_cons_zero, List.getElem_cons_succ, List.setIfInBounds_toArray, List.set_cons_zero, List.set_cons_succ]
          refine wpAnyH_take (i := 16) (v := ?_) rfl (by kernel_rfl) (by kernel_rfl) (by kernel_rfl) (fun _ _ _ h => h) (Or.inl ⟨by rfl, ?_⟩) (by assumption) ?_
          rotate_left
          · (intro w hSw; (try dsimp only at hSw); go_simp; try with_reducible rfl)
          simp only [Act.put, List.getElem_toArray, List.getElem_cons_zero, List.getElem_cons_succ, List.setIfInBounds_toArray, List.set_cons_zero, List.set_cons_succ]
          refine wpAnyH_done (by kernel_rfl) ?_ _
          clear hS
          go_wp2_with fail
          refine ⟨⟨j + 1, q, by rw [hinc], rfl, by omega, fun h => ?_, fun h => ⟨(HI2.out rfl).1, fun k hk => ?_⟩, Below.drew HBR.out⟩, by rw [hinc]; simp [intOf]; omega⟩
          · have h2 := h.1 j (by omega)
            rw [HB1.out.1, HB1.out.2] at h2
            rw [← HQ.out, h2, beq_self_eq_true]
          · by_cases hkj : k < j
            · exact (HI2.out rfl).2 k hkj
            · have e : k = j := by omega
              subst e
              rw [HB1.out.1, HB1.out.2]
              rw [← HQ.out] at h
              exact eq_of_beq h
end Go.Proofs.YtaebpnednhkfhaaDoor
