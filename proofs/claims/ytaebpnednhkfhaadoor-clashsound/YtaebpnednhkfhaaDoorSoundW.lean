/-
  The walk of marlstonelaw06.ClashSound.
-/
import Derived.Test.YtaebpnednhkfhaaDoorListsW
namespace Go.Proofs.YtaebpnednhkfhaaDoor
open Go.RowKit
set_option maxRecDepth 100000 in
set_option maxHeartbeats 20000000 in
theorem sound_walk (z : Int) (a0 : Option Addr) (n0 c0 : Nat) (b off : Nat) (ps : List PP) (x : Int) (la : Option Addr) (ln lc : Nat) (lb : List UInt8) (pa : Option Addr) (pn pc : Nat) (ds : List (List UInt8)) (w : World) (hP : Pieces w b off ps) (hn : ps.length = n0) (ha : 0 < n0 → a0 = some ⟨b, off, none⟩) (hK : WW w 0 ks) (h0 : 0 < w.heap.size) (hz : -9223372036854775808 ≤ z ∧ z ≤ 9223372036854775807)
    (hB : Bytes w la ln lb) (hl0 : la = none → lc = 0) (hlc : ln ≤ lc) (hlm : lc ≤ 140737488355000) (hPt : PathV w pa ds) (hpl : ds.length = pn) (hpc : pn ≤ pc) (hpm : pc ≤ 9223372036854775807) :
    Calls Tryd.prog 15 #[.int .i64 z, .slice a0 n0 c0, .int .i64 x, .slice la ln lc, .slice pa pn pc] w fun e w' => e = .returned (.bool true) ∧ Below w.heap.size w w' := by
  have HBY : Hid (∀ W, Below w.heap.size w W → Bytes W la ln lb) := fun W hW => bytes_kept hB hW (Nat.le_refl _)
  have HPT : Hid (∀ W, Below w.heap.size w W → PathV W pa ds) := fun W hW => hPt.below hW (Nat.le_refl _)
  have HFX : Hid ((la = none → lc = 0) ∧ ln ≤ lc ∧ lc ≤ 140737488355000 ∧ ds.length = pn ∧ pn ≤ pc ∧ pc ≤ 9223372036854775807) := ⟨hl0, hlc, hlm, hpl, hpc, hpm⟩
  have HD32 : Hid (∀ e ∈ ds, e.length = 32) := hPt.1
  clear hB hl0 hlc hlm hPt hpl hpc hpm
  have HKW : Hid (WW w 0 ks ∧ 0 < w.heap.size) := ⟨hK, h0⟩
  have HSH : Hid (∀ W, Below w.heap.size w W → Calls Tryd.prog 46 #[] W fun e w' => e = .returned (.bool true) ∧ Below W.heap.size W w') := fun W hW => shown6_any W (hK.below hW h0) (Nat.lt_of_lt_of_le h0 hW.size)
  have HSM : Hid (∀ W, Below w.heap.size w W → Calls Tryd.prog 47 #[.slice a0 n0 c0] W fun e w' => ∃ ao' n' c', e = .returned (.slice ao' n' c') ∧ CutV w' ao' n' c' (cutL ps 40 100) ∧ n' ≤ 40 ∧ Below W.heap.size W w') := fun W hW => small6_any b off n0 c0 a0 ps W (hP.below hW (Nat.le_refl _)) hn ha
  have HZ : Hid (-9223372036854775808 ≤ z ∧ z ≤ 9223372036854775807) := hz
  clear hP hn ha hK h0 hz
  go_enter Tryd.func15, Tryd.ntmps15
  go_wp2_with fail
  refine (HSH.out _ (Below.refl w.heap.size w)).mono ?_
  rintro e w1 ⟨rfl, hb1⟩
  have HB1 : Hid (Below w.heap.size w w1) := (Below.refl w.heap.size w).trans (hb1.mono (Below.refl w.heap.size w).size)
  have HB01 : Hid (Below _ _ w1) := hb1
  clear hb1
  go_wp2_with fail
  refine (HSM.out _ HB1.out).mono ?_
  rintro e w2 ⟨ao, n, c, rfl, ⟨ls, hL, hE⟩, hn70, hb2⟩
  have HLV : Hid (LeavesV w2 ao n c ls) := hL
  have HEL : Hid (bytesL ls = cutL ps 40 100) := hE
  have HN70 : Hid (n ≤ 40) := hn70
  have HB2 : Hid (Below w.heap.size w w2) := HB1.out.trans (hb2.mono HB1.out.size)
  have HB02 : Hid (Below _ _ w2) := HB01.out.trans (hb2.mono HB01.out.size)
  have HKB : Hid (∀ W, Below w2.heap.size w2 W → WW W 0 ks ∧ 0 < W.heap.size) := fun W hW => by
    have h1 := HB2.out.trans (hW.mono HB2.out.size)
    exact ⟨HKW.out.1.below h1 HKW.out.2, Nat.lt_of_lt_of_le HKW.out.2 h1.size⟩
  clear hL hE hn70 hb2 HB1 HSH HSM HB01
  obtain ⟨w3, HW3⟩ : ∃ W, Hid (w2.alloc (Obj.cells #[Value.int IntKind.i64 z] 30) = W) := ⟨_, rfl⟩
  have HB3 : Hid (Below w2.heap.size w2 w3) := by show Below _ _ _; rw [← HW3.out]; exact bel_alloc _ _
  have HN3 : Hid (w3.heap[w2.heap.size]? = some (.cells #[Value.int IntKind.i64 z] 30 (0, 0))) := by show _ = _; rw [← HW3.out]; exact heap_alloc_new _ _
  have HKB3 : Hid (∀ W, Below w3.heap.size w3 W → WW W 0 ks ∧ 0 < W.heap.size) := fun W hW => HKB.out W (HB3.out.trans (hW.mono HB3.out.size))
  have HLV3 : Hid (∀ W, Below w3.heap.size w3 W → LeavesV W ao n c ls) := fun W hW => (HLV.out.below HB3.out (Nat.le_refl _)).below hW (Nat.le_refl _)
  have HBW : Hid (∀ W, Below w3.heap.size w3 W → Below w.heap.size w W) := fun W hW => HB2.out.trans ((HB3.out.trans (hW.mono HB3.out.size)).mono HB2.out.size)
  have HNC : Hid (n ≤ c ∧ c ≤ 9223372036854775807) := ⟨HLV.out.2.1, HLV.out.2.2.1⟩
  have HCZ : Hid (∀ W, Below w3.heap.size w3 W → W.cell? ⟨w2.heap.size, 0, none⟩ = some (.int .i64 z)) := fun W hW => bel_cell2 hW (Nat.le_refl _) (by rw [cell_of_row w3 _ 0 _ _ _ HN3.out]; rfl)
  obtain ⟨o, HO⟩ : ∃ o, Hid (ofO z ls x ⟨la, ln, lc, lb⟩ ds = o) := ⟨_, rfl⟩
  obtain ⟨ck, HCK⟩ : ∃ b, Hid (ckB z (rootD z (bytesL ls)) n x lb ds = b) := ⟨_, rfl⟩
  have HLN : Hid (ls.length = n) := HLV.out.1
  have HOF : Hid (∀ W, Below w3.heap.size w3 W → Calls Tryd.prog 48 #[.agg #[.int .i64 z], .slice ao n c, .int .i64 x, .slice la ln lc, .slice pa pn pc] W fun e w' => AnsR o e w' ∧ Below W.heap.size W w') := fun W hW => by
    have h := ofOne_any z ao n c ls x ⟨la, ln, lc, lb⟩ pa pn pc ds W (HLV3.out W hW) (by have := HN70.out; omega) (HBY.out W (HBW.out W hW)) (by have := HFX.out; show ln ≤ _; omega) HFX.out.1 (HPT.out W (HBW.out W hW)) HFX.out.2.2.2.1 HFX.out.2.2.2.2.1 HFX.out.2.2.2.2.2 (HKB3.out W hW).1 (HKB3.out W hW).2 HZ.out
    rw [HO.out] at h; exact h
  have HRO : Hid (∀ W, Below w3.heap.size w3 W → Calls Tryd.prog 23 #[.agg #[.int .i64 z], .slice ao n c] W fun e w' => e = .returned (.agg (cellsOf (rootD z (bytesL ls))).toArray) ∧ Below W.heap.size W w') := fun W hW => root_any z HZ.out n ao c ls W (HLV3.out W hW) (by have := HN70.out; omega) (HKB3.out W hW).1 (HKB3.out W hW).2
  have HCC : Hid (∀ W, Below w3.heap.size w3 W → Calls Tryd.prog 40 #[.agg #[.int .i64 z], .agg (cellsOf (rootD z (bytesL ls))).toArray, .int .i64 (n : Int), .int .i64 x, .slice la ln lc, .slice pa pn pc] W fun e w' => e = .returned (.bool ck) ∧ Below W.heap.size W w') := fun W hW => by
    have h := check_any z (rootD z (bytesL ls)) n x la ln lc lb pa pn pc ds W (rootD_length _ _) (by have := HN70.out; omega) HFX.out.2.2.2.1 HFX.out.2.2.2.2.1 HFX.out.2.2.2.2.2 (HPT.out W (HBW.out W hW)) (HBY.out W (HBW.out W hW)) HFX.out.1 (by have := HFX.out; omega) (HKB3.out W hW).1 (HKB3.out W hW).2 HZ.out
    rw [HCK.out] at h; exact h
  have HCF : Hid (ck = false → o = none) := fun h => by
    rw [← HO.out]; exact ofO_no z ls x ⟨la, ln, lc, lb⟩ ds (by rw [HLN.out]; show ckB z _ n x lb ds = false; rw [HCK.out]; exact h)
  have HCT : Hid (ck = true → ∃ i : Nat, x = (i : Int) ∧ i < n ∧ (∀ a b, o = some (a, b) → a ≠ b ∧ keptZ z a = keptZ z b) ∧ (o = none ↔ lb = bsAt ls i ∧ ds = pathD z ls (i : Int))) := fun h => by
    have h2 := ofO_sound z ls x ⟨la, ln, lc, lb⟩ ds (by have := HN70.out; have := HLN.out; omega) HD32.out (by rw [HLN.out]; show ckB z _ n x lb ds = true; rw [HCK.out]; exact h)
    rw [HO.out, HLN.out] at h2; exact h2
  obtain ⟨rt, HRT⟩ : ∃ d, Hid (rootD z (bytesL ls) = d) := ⟨_, rfl⟩
  rw [HRT.out] at HRO HCC
  have hcz := HCZ.out _ (Below.refl _ _)
  go_wp2_with fail
  rw [HW3.out]
  clear hcz
  refine (HOF.out _ (Below.refl _ _)).mono ?_
  rintro e w4 ⟨⟨xa, xn, xc, ya, yn, yc, rfl, t1, t2⟩, hb4⟩
  have HB4 : Hid (Below w3.heap.size w3 w4) := hb4
  have HT4 : Hid (∀ W, Below w4.heap.size w4 W → TxV W xa xn xc (oA o) ∧ TxV W ya yn yc (oB o)) := fun W hW => ⟨t1.below hW (Nat.le_refl _), t2.below hW (Nat.le_refl _)⟩
  have HW4 : Hid (∀ W, Below w4.heap.size w4 W → Below w3.heap.size w3 W) := fun W hW => HB4.out.trans (hW.mono HB4.out.size)
  have HS4 : Hid (∀ W, Below w4.heap.size w4 W → W.cell? ⟨w2.heap.size, 0, none⟩ = some (.int .i64 z)) := fun W hW => HCZ.out W (HW4.out W hW)
  clear t1 t2 hb4 HOF HW3
  go_upto_region 5 with fail
  refine wp_region_held_drew (S := fun W => W.cell? ⟨w2.heap.size, 0, none⟩ = some (.int .i64 z)) (by kernel_rfl) (HS4.out _ (Below.drew (Below.refl _ _))) (fun hS => ?_)
  refine wpAnyH_take (i := 0) (v := ?_) rfl (by kernel_rfl) (by kernel_rfl) (by kernel_rfl) (fun _ _ _ h => h) (Or.inl ⟨by rfl, ?_⟩) (by assumption) ?_
  rotate_left
  · (intro w hSw; (try dsimp only at hSw); go_simp; try with_reducible rfl)
  simp only [Act.put, List.getElem_toArray, List.getElem_cons_zero, List.setIfInBounds_toArray, List.set_cons_zero, List.set_cons_succ]
  refine wpAnyH_take (i := 1) (v := ?_) rfl (by kernel_rfl) (by kernel_rfl) (by kernel_rfl) (fun _ _ _ h => h) (Or.inl ⟨by rfl, ?_⟩) (by assumption) ?_
  rotate_left
  · (intro w hSw; (try dsimp only at hSw); go_simp; try with_reducible rfl)
  simp only [Act.put, List.getElem_toArray, List.getElem_cons_zero, List.getElem_cons_succ, List.setIfInBounds_toArray, List.set_cons_zero, List.set_cons_succ]
  refine wpAnyH_take (i := 2) (v := ?_) rfl (by kernel_rfl) (by kernel_rfl) (by kernel_rfl) (fun _ _ _ h => h) (Or.inl ⟨by rfl, ?_⟩) (by assumption) ?_
  rotate_left
  · (intro w hSw; (try dsimp only at hSw); go_simp; try with_reducible rfl)
  simp only [Act.put, List.getElem_toArray, List.getElem_cons_zero, List.getElem_cons_succ, List.setIfInBounds_toArray, List.set_cons_zero, List.set_cons_succ]
  refine wpAnyH_take (i := 4) (v := ?_) rfl (by kernel_rfl) (by kernel_rfl) (by kernel_rfl) (fun _ _ _ h => h) (Or.inl ⟨by rfl, ?_⟩) (by assumption) ?_
  rotate_left
  · (intro w hSw; (try dsimp only at hSw); go_simp; try with_reducible rfl)
  simp only [Act.put, List.getElem_toArray, List.getElem_cons_zero, List.getElem_cons_succ, List.setIfInBounds_toArray, List.set_cons_zero, List.set_cons_succ]
  refine wpAnyH_take (i := 5) (v := ?_) rfl (by kernel_rfl) (by kernel_rfl) (by kernel_rfl) (fun _ _ _ h => h) (Or.inl ⟨by rfl, ?_⟩) (by assumption) ?_
  rotate_left
  · (intro w hSw; (try dsimp only at hSw); go_simp; try with_reducible rfl)
  simp only [Act.put, List.getElem_toArray, List.getElem_cons_zero, List.getElem_cons_succ, List.setIfInBounds_toArray, List.set_cons_zero, List.set_cons_succ]
  refine wpAnyH_take (i := 6) (v := ?_) rfl (by kernel_rfl) (by kernel_rfl) (by kernel_rfl) (fun _ _ _ h => h) (Or.inl ⟨by rfl, ?_⟩) (by assumption) ?_
  rotate_left
  · (intro w hSw; (try dsimp only at hSw); go_simp; try with_reducible rfl)
  simp only [Act.put, List.getElem_toArray, List.getElem_cons_zero, List.getElem_cons_succ, List.setIfInBounds_toArray, List.set_cons_zero, List.set_cons_succ]
  refine wpAnyH_take (i := 7) (v := ?_) rfl (by kernel_rfl) (by kernel_rfl) (by kernel_rfl) (fun _ _ _ h => h) (Or.inl ⟨by rfl, ?_⟩) (by assumption) ?_
  rotate_left
  · (intro w hSw; (try dsimp only at hSw); go_simp; try with_reducible rfl)
  simp only [Act.put, List.getElem_toArray, List.getElem_cons_zero, List.getElem_cons_succ, List.setIfInBounds_toArray, List.set_cons_zero, List.set_cons_succ]
  refine wpAnyH_take (i := 8) (v := ?_) rfl (by kernel_rfl) (by kernel_rfl) (by kernel_rfl) (fun _ _ _ h => h) (Or.inl ⟨by rfl, ?_⟩) (by assumption) ?_
  rotate_left
  · (intro w hSw; (try dsimp only at hSw); go_simp; try with_reducible rfl)
  simp only [Act.put, List.getElem_toArray, List.getElem_cons_zero, List.getElem_cons_succ, List.setIfInBounds_toArray, List.set_cons_zero, List.set_cons_succ]
  refine wpAnyH_ready (rs := [3]) (by kernel_rfl) (by simp) ?_
  refine AllReadyH.cons rfl (fun K hK => ?_) AllReadyH.nil
  go_simp
  refine (HRO.out _ (HW4.out _ (Below.drew (Below.refl _ _)))).mono ?_
  rintro e w5 ⟨rfl, hb5⟩
  have HB5 : Hid (Below w4.heap.size w4 w5) := (Below.drew (Below.refl _ _)).trans hb5
  go_wp2_with fail
  refine hK.out _ _ (HS4.out _ HB5.out) (fun hHeld2 => ?_)
  clear hK K hb5
  refine wpAnyH_ready (rs := [9]) (by kernel_rfl) (by simp) ?_
  refine AllReadyH.cons rfl (fun K hK => ?_) AllReadyH.nil
  go_simp
  refine (HCC.out _ (HW4.out _ HB5.out)).mono ?_
  rintro e w6 ⟨rfl, hb6⟩
  have HB6 : Hid (Below w4.heap.size w4 w6) := HB5.out.trans (hb6.mono HB5.out.size)
  go_wp2_with fail
  refine hK.out _ _ (HS4.out _ HB6.out) (fun hHeld3 => ?_)
  clear hK K hb6 hHeld2
  refine wpAnyH_take (i := 10) (v := ?_) rfl (by kernel_rfl) (by kernel_rfl) (by kernel_rfl) (fun _ _ _ h => h) (Or.inl ⟨by rfl, ?_⟩) (by assumption) ?_
  rotate_left
  · (intro w hSw; (try dsimp only at hSw); go_simp; try with_reducible rfl)
  simp only [Act.put, List.getElem_toArray, List.getElem_cons_zero, List.getElem_cons_succ, List.setIfInBounds_toArray, List.set_cons_zero, List.set_cons_succ]
  refine wpAnyH_done (by kernel_rfl) ?_ _
  clear hS hHeld3 HRO HCC
  cases ck with
  | false =>
    have HON : Hid (o = none) := HCF.out (by first | rfl | trivial)
    have hoS : o.isSome = false := by rw [HON.out]; rfl
    have HX0 : Hid (xn = 0 ∧ yn = 0) := by
      obtain ⟨q1, q2⟩ := HT4.out _ (Below.refl _ _)
      rw [HON.out] at q1 q2
      exact ⟨q1.1.1.symm, q2.1.1.symm⟩
    have hx0 : ((xn : Int) == 0) = true := by rw [HX0.out.1]; rfl
    have hy0 : ((yn : Int) == 0) = true := by rw [HX0.out.2]; rfl
    have hx1 : (xn : Int) = 0 := by rw [HX0.out.1]; rfl
    have hy1 : (yn : Int) = 0 := by rw [HX0.out.2]; rfl
    try clear HCT
    go_wp2_with fail
    go_ret
    exact ⟨rfl, HBW.out _ (HW4.out _ HB6.out)⟩
  | true =>
    obtain ⟨i, hxi, hin, hcl, hno⟩ := HCT.out (by first | rfl | trivial)
    have HCL : Hid (∀ a b, o = some (a, b) → a ≠ b ∧ keptZ z a = keptZ z b) := hcl
    have HNO : Hid (o = none ↔ lb = bsAt ls i ∧ ds = pathD z ls (i : Int)) := hno
    have HIN : Hid (i < n) := hin
    subst hxi
    obtain ⟨P, HP⟩ : ∃ P, Hid (pathD z ls (i : Int) = P) := ⟨_, rfl⟩
    have HPE : Hid (pathE n (i : Int) = 0) := if_pos (by omega)
    have HPA : Hid (∀ W, Below w4.heap.size w4 W → Calls Tryd.prog 33 #[.agg #[.int .i64 z], .slice ao n c, .int .i64 (i : Int)] W fun e w' => ∃ v, e = .returned (.tuple #[v, .int .i64 0]) ∧ DgV w' W.heap.size v P ∧ Below W.heap.size W w') := fun W hW => by
      have h := path_any z ao n c ls (i : Int) W (HLV3.out W (HW4.out W hW)) (by have := HN70.out; omega) (HKB3.out W (HW4.out W hW)).1 (HKB3.out W (HW4.out W hW)).2 HZ.out
      rw [HPE.out, HP.out] at h; exact h
    have HPN : Hid (P.length ≤ 64) := by
      show _ ≤ _
      rw [← HP.out, pathD_len z ls i (by have := HLN.out; omega)]; exact upL_len _ _
    rw [HP.out] at HNO
    clear hin hcl hno HCT HCF
    have hcz := HS4.out _ HB6.out
    go_wp2_with fail
    clear hcz
    refine (HPA.out _ HB6.out).mono ?_
    rintro e w7 ⟨v, rfl, hd7, hb7⟩
    have HB7 : Hid (Below w4.heap.size w4 w7) := HB6.out.trans (hb7.mono HB6.out.size)
    obtain ⟨aop, cp, rfl, -, -, hPV, -⟩ := hd7.path
    have HSM : Hid (Calls Tryd.prog 37 #[.slice aop P.length cp, .slice pa pn pc] w7 fun e w' => e = .returned (.bool (P == ds)) ∧ Below w7.heap.size w7 w') := by
      have h := same_any aop cp P pa pc ds w7 hPV (HPT.out _ (HBW.out _ (HW4.out _ HB7.out))) (by have := HPN.out; omega)
      rw [HFX.out.2.2.2.1] at h; exact h
    clear hd7 hb7 hPV
    obtain ⟨sm, HSB⟩ : ∃ b, Hid ((P == ds) = b) := ⟨_, rfl⟩
    rw [HSB.out] at HSM
    obtain ⟨k, HK⟩ : ∃ k : Nat, Hid (P.length = k) := ⟨_, rfl⟩
    simp only [HK.out] at HSM ⊢
    go_wp2_with fail
    refine Calls.mono HSM.out ?_
    rintro e w8 ⟨rfl, hb8⟩
    have HB8 : Hid (Below w4.heap.size w4 w8) := HB7.out.trans (hb8.mono HB7.out.size)
    clear hb8 HSM HPA
    obtain ⟨⟨rao, rn, rc, rbs⟩, HRF⟩ : ∃ p, Hid (ls[i]? = some p) := ⟨_, List.getElem?_eq_getElem (by have := HLN.out; have := HIN.out; omega)⟩
    obtain ⟨rb, rf, e2, -, -⟩ := (HLV3.out _ (HW4.out _ HB8.out)).at i _ HRF.out
    subst e2
    have HRB : Hid (bsAt ls i = rbs) := bsAt_some HRF.out
    have hi0 : ¬ (i : Int) < 0 := by omega
    have hi1 : ¬ (n : Int) ≤ (i : Int) := by have := HIN.out; omega
    have hi1d : decide ((n : Int) ≤ (i : Int)) = false := by have := HIN.out; simp; omega
    have hi1n : decide (n ≤ i) = false := by have := HIN.out; simp; omega
    have hi2 : i < n := HIN.out
    have hi2z : (i : Int) < (n : Int) := by omega
    have HS : Hid (∀ W, Below w4.heap.size w4 W → (convert 36 9 (.slice la ln lc)).run Tryd.prog W = .ok (.string ⟨lb.toArray⟩) W ∧ W.cell? ⟨rb, rf + i, none⟩ = some (.slice rao rn rc) ∧ (convert 36 9 (.slice rao rn rc)).run Tryd.prog W = .ok (.string ⟨rbs.toArray⟩) W) := fun W hW => by
      obtain ⟨b2, f2, e2, d3, d4⟩ := (HLV3.out _ (HW4.out _ hW)).at i _ HRF.out
      cases e2
      exact ⟨str_bytes lc (HBY.out _ (HBW.out _ (HW4.out _ hW))), d3, str_bytes rc d4⟩
    go_upto_region 11 with fail
    clear hi0 hi1 hi1d hi1n
    cases sm with
    | false =>
      refine wp_region_held_drew (S := fun _ => True) (by kernel_rfl) trivial (fun hS => ?_)
      refine wpAnyH_take (i := 0) (v := ?_) rfl (by kernel_rfl) (by kernel_rfl) (by kernel_rfl) (fun _ _ _ h => h) (Or.inl ⟨by rfl, ?_⟩) (by assumption) ?_
      rotate_left
      · (intro w hSw; (try dsimp only at hSw); go_simp; try with_reducible rfl)
      simp only [Act.put, List.getElem_toArray, List.getElem_cons_zero, List.setIfInBounds_toArray, List.set_cons_zero, List.set_cons_succ]
      refine wpAnyH_take (i := 1) (v := ?_) rfl (by kernel_rfl) (by kernel_rfl) (by kernel_rfl) (fun _ _ _ h => h) (Or.inl ⟨by rfl, ?_⟩) (by assumption) ?_
      rotate_left
      · (intro w hSw; (try dsimp only at hSw); go_simp; try with_reducible rfl)
      simp only [Act.put, List.getElem_toArray, List.getElem_cons_zero, List.getElem_cons_succ, List.setIfInBounds_toArray, List.set_cons_zero, List.set_cons_succ]
      refine wpAnyH_take (i := 2) (v := undef) rfl (by kernel_rfl) (by kernel_rfl) (by kernel_rfl) (fun _ _ _ h => h) (Or.inr ⟨by rfl, rfl⟩) (by assumption) ?_
      simp only [Act.put, List.getElem_toArray, List.getElem_cons_zero, List.getElem_cons_succ, List.setIfInBounds_toArray, List.set_cons_zero, List.set_cons_succ]
      refine wpAnyH_take (i := 3) (v := undef) rfl (by kernel_rfl) (by kernel_rfl) (by kernel_rfl) (fun _ _ _ h => h) (Or.inr ⟨by rfl, rfl⟩) (by assumption) ?_
      simp only [Act.put, List.getElem_toArray, List.getElem_cons_zero, List.getElem_cons_succ, List.setIfInBounds_toArray, List.set_cons_zero, List.set_cons_succ]
      refine wpAnyH_take (i := 4) (v := undef) rfl (by kernel_rfl) (by kernel_rfl) (by kernel_rfl) (fun _ _ _ h => h) (Or.inr ⟨by rfl, rfl⟩) (by assumption) ?_
      simp only [Act.put, List.getElem_toArray, List.getElem_cons_zero, List.getElem_cons_succ, List.setIfInBounds_toArray, List.set_cons_zero, List.set_cons_succ]
      refine wpAnyH_take (i := 5) (v := undef) rfl (by kernel_rfl) (by kernel_rfl) (by kernel_rfl) (fun _ _ _ h => h) (Or.inr ⟨by rfl, rfl⟩) (by assumption) ?_
      simp only [Act.put, List.getElem_toArray, List.getElem_cons_zero, List.getElem_cons_succ, List.setIfInBounds_toArray, List.set_cons_zero, List.set_cons_succ]
      refine wpAnyH_take (i := 6) (v := undef) rfl (by kernel_rfl) (by kernel_rfl) (by kernel_rfl) (fun _ _ _ h => h) (Or.inr ⟨by rfl, rfl⟩) (by assumption) ?_
      simp only [Act.put, List.getElem_toArray, List.getElem_cons_zero, List.getElem_cons_succ, List.setIfInBounds_toArray, List.set_cons_zero, List.set_cons_succ]
      refine wpAnyH_take (i := 7) (v := undef) rfl (by kernel_rfl) (by kernel_rfl) (by kernel_rfl) (fun _ _ _ h => h) (Or.inr ⟨by rfl, rfl⟩) (by assumption) ?_
      simp only [Act.put, List.getElem_toArray, List.getElem_cons_zero, List.getElem_cons_succ, List.setIfInBounds_toArray, List.set_cons_zero, List.set_cons_succ]
      refine wpAnyH_take (i := 8) (v := undef) rfl (by kernel_rfl) (by kernel_rfl) (by kernel_rfl) (fun _ _ _ h => h) (Or.inr ⟨by rfl, rfl⟩) (by assumption) ?_
      simp only [Act.put, List.getElem_toArray, List.getElem_cons_zero, List.getElem_cons_succ, List.setIfInBounds_toArray, List.set_cons_zero, List.set_cons_succ]
      refine wpAnyH_take (i := 9) (v := undef) rfl (by kernel_rfl) (by kernel_rfl) (by kernel_rfl) (fun _ _ _ h => h) (Or.inr ⟨by rfl, rfl⟩) (by assumption) ?_
      simp only [Act.put, List.getElem_toArray, List.getElem_cons_zero, List.getElem_cons_succ, List.setIfInBounds_toArray, List.set_cons_zero, List.set_cons_succ]
      refine wpAnyH_take (i := 10) (v := ?_) rfl (by kernel_rfl) (by kernel_rfl) (by kernel_rfl) (fun _ _ _ h => h) (Or.inl ⟨by rfl, ?_⟩) (by assumption) ?_
      rotate_left
      · (intro w hSw; (try dsimp only at hSw); go_simp; try with_reducible rfl)
      simp only [Act.put, List.getElem_toArray, List.getElem_cons_zero, List.getElem_cons_succ, List.setIfInBounds_toArray, List.set_cons_zero, List.set_cons_succ]
      refine wpAnyH_done (by kernel_rfl) ?_ _
      clear hS hi2 hi2z
      have HBD : Hid (Below w4.heap.size w4 w8.drew) := Below.drew HB8.out
      have HEX : Hid (∃ x y, o = some (x, y) ∧ x ≠ y ∧ keptZ z x = keptZ z y) := by
        cases ho : o with
        | none =>
          have h := (HNO.out.1 ho).2
          have h2 := HSB.out
          rw [← h, beq_self_eq_true] at h2
          cases h2
        | some p => exact ⟨p.1, p.2, rfl, HCL.out p.1 p.2 ho⟩
      clear HNO HCL HSB HP HO HCK HRT HRB HRF
      obtain ⟨x, y, ho, hxy0, hxk0⟩ := HEX.out
      have HON : Hid (o = some (x, y)) := ho
      have hoS : o.isSome = true := by rw [HON.out]; rfl
      clear ho
      have HXY : Hid (x ≠ y) := hxy0
      have HXK : Hid (keptZ z x = keptZ z y) := hxk0
      clear hxy0 hxk0
      have HTX : Hid (∀ W, Below w4.heap.size w4 W → TxV W xa xn xc x ∧ TxV W ya yn yc y) := fun W hW => by have h := HT4.out W hW; rw [HON.out] at h; exact h
      have sa := str_bytes xc (HTX.out _ HBD.out).1.1
      have sb := str_bytes yc (HTX.out _ HBD.out).2.1
      have hxy : (x == y) = false := by rw [beq_eq_false_iff_ne]; exact HXY.out
      have hxz := HS4.out _ HBD.out
      have HOT : Hid (∀ W, Below w4.heap.size w4 W → Calls Tryd.prog 50 #[.agg #[.int .i64 z], .slice xa xn xc, .slice ya yn yc] W fun e w' => e = .returned (.bool true) ∧ Below W.heap.size W w') := fun W hW => by
        have h := ofTexts_any z xa xn xc x ya yn yc y W (HTX.out _ hW).1 (HTX.out _ hW).2 (HKB3.out _ (HW4.out _ hW)).1 (HKB3.out _ (HW4.out _ hW)).2 HZ.out
        rw [oft_true HXY.out HXK.out] at h; exact h
      clear HXY HXK HON HEX
      try clear hnzb hnzc hnzd
      try clear hiz
      try clear HLM HAL HAL2 HR HNE HLN
      go_wp2_with fail
      refine (HOT.out _ HBD.out).mono ?_
      rintro e wz ⟨rfl, hbz⟩
      have HBZ : Hid (Below w4.heap.size w4 wz) := HBD.out.trans (hbz.mono HBD.out.size)
      clear hbz sa sb hxy hxz
      go_wp2_with fail
      go_ret
      exact ⟨rfl, HBW.out _ (HW4.out _ HBZ.out)⟩
    | true =>
      obtain ⟨q, HQ⟩ : ∃ b, Hid ((lb == rbs) = b) := ⟨_, rfl⟩
      have hq := HQ.out
      refine wp_region_held_drew (S := fun W => (convert 36 9 (.slice la ln lc)).run Tryd.prog W = .ok (.string ⟨lb.toArray⟩) W ∧ W.cell? ⟨rb, rf + i, none⟩ = some (.slice rao rn rc) ∧ (convert 36 9 (.slice rao rn rc)).run Tryd.prog W = .ok (.string ⟨rbs.toArray⟩) W) (by kernel_rfl) (HS.out _ (Below.drew HB8.out)) (fun hS => ?_)
      refine wpAnyH_take (i := 0) (v := ?_) rfl (by kernel_rfl) (by kernel_rfl) (by kernel_rfl) (fun _ _ _ h => h) (Or.inl ⟨by rfl, ?_⟩) (by assumption) ?_
      rotate_left
      · (intro w hSw; (try dsimp only at hSw); go_simp; try with_reducible rfl)
      simp only [Act.put, List.getElem_toArray, List.getElem_cons_zero, List.setIfInBounds_toArray, List.set_cons_zero, List.set_cons_succ]
      refine wpAnyH_take (i := 1) (v := ?_) rfl (by kernel_rfl) (by kernel_rfl) (by kernel_rfl) (fun _ _ _ h => h) (Or.inl ⟨by rfl, ?_⟩) (by assumption) ?_
      rotate_left
      · (intro w hSw; (try dsimp only at hSw); go_simp; try with_reducible rfl)
      simp only [Act.put, List.getElem_toArray, List.getElem_cons_zero, List.getElem_cons_succ, List.setIfInBounds_toArray, List.set_cons_zero, List.set_cons_succ]
      refine wpAnyH_take (i := 2) (v := ?_) rfl (by kernel_rfl) (by kernel_rfl) (by kernel_rfl) (fun _ _ _ h => h) (Or.inl ⟨by rfl, ?_⟩) (by assumption) ?_
      rotate_left
      · (intro w hSw; (try dsimp only at hSw); go_simp; try with_reducible rfl)
      simp only [Act.put, List.getElem_toArray, List.getElem_cons_zero, List.getElem_cons_succ, List.setIfInBounds_toArray, List.set_cons_zero, List.set_cons_succ]
      refine wpAnyH_take (i := 3) (v := ?_) rfl (by kernel_rfl) (by kernel_rfl) (by kernel_rfl) (fun _ _ _ h => h) (Or.inl ⟨by rfl, ?_⟩) (by assumption) ?_
      rotate_left
      · (intro w hSw; (try dsimp only at hSw); go_simp; try with_reducible rfl)
      simp only [Act.put, List.getElem_toArray, List.getElem_cons_zero, List.getElem_cons_succ, List.setIfInBounds_toArray, List.set_cons_zero, List.set_cons_succ]
      refine wpAnyH_take (i := 4) (v := ?_) rfl (by kernel_rfl) (by kernel_rfl) (by kernel_rfl) (fun _ _ _ h => h) (Or.inl ⟨by rfl, ?_⟩) (by assumption) ?_
      rotate_left
      · (intro w hSw; (try dsimp only at hSw); go_simp; try with_reducible rfl)
      simp only [Act.put, List.getElem_toArray, List.getElem_cons_zero, List.getElem_cons_succ, List.setIfInBounds_toArray, List.set_cons_zero, List.set_cons_succ]
      refine wpAnyH_take (i := 5) (v := ?_) rfl (by kernel_rfl) (by kernel_rfl) (by kernel_rfl) (fun _ _ _ h => h) (Or.inl ⟨by rfl, ?_⟩) (by assumption) ?_
      rotate_left
      · (intro w hSw; (try dsimp only at hSw); go_simp; try with_reducible rfl)
      simp only [Act.put, List.getElem_toArray, List.getElem_cons_zero, List.getElem_cons_succ, List.setIfInBounds_toArray, List.set_cons_zero, List.set_cons_succ]
      refine wpAnyH_take (i := 6) (v := ?_) rfl (by kernel_rfl) (by kernel_rfl) (by kernel_rfl) (fun _ _ _ h => h) (Or.inl ⟨by rfl, ?_⟩) (by assumption) ?_
      rotate_left
      · (intro w hSw; (try dsimp only at hSw); go_simp; try with_reducible rfl)
      simp only [Act.put, List.getElem_toArray, List.getElem_cons_zero, List.getElem_cons_succ, List.setIfInBounds_toArray, List.set_cons_zero, List.set_cons_succ]
      refine wpAnyH_take (i := 7) (v := ?_) rfl (by kernel_rfl) (by kernel_rfl) (by kernel_rfl) (fun _ _ _ h => h) (Or.inl ⟨by rfl, ?_⟩) (by assumption) ?_
      rotate_left
      · (intro w hSw; (try dsimp only at hSw); go_simp; try with_reducible rfl)
      simp only [Act.put, List.getElem_toArray, List.getElem_cons_zero, List.getElem_cons_succ, List.setIfInBounds_toArray, List.set_cons_zero, List.set_cons_succ]
      refine wpAnyH_take (i := 8) (v := ?_) rfl (by kernel_rfl) (by kernel_rfl) (by kernel_rfl) (fun _ _ _ h => h) (Or.inl ⟨by rfl, ?_⟩) (by assumption) ?_
      rotate_left
      · (intro w hSw; (try dsimp only at hSw); go_simp; try with_reducible rfl)
      simp only [Act.put, List.getElem_toArray, List.getElem_cons_zero, List.getElem_cons_succ, List.setIfInBounds_toArray, List.set_cons_zero, List.set_cons_succ]
      refine wpAnyH_take (i := 9) (v := ?_) rfl (by kernel_rfl) (by kernel_rfl) (by kernel_rfl) (fun _ _ _ h => h) (Or.inl ⟨by rfl, ?_⟩) (by assumption) ?_
      rotate_left
      · (intro w hSw; (try dsimp only at hSw); go_simp; try with_reducible rfl)
      simp only [Act.put, List.getElem_toArray, List.getElem_cons_zero, List.getElem_cons_succ, List.setIfInBounds_toArray, List.set_cons_zero, List.set_cons_succ]
      refine wpAnyH_take (i := 10) (v := ?_) rfl (by kernel_rfl) (by kernel_rfl) (by kernel_rfl) (fun _ _ _ h => h) (Or.inl ⟨by rfl, ?_⟩) (by assumption) ?_
      rotate_left
      · (intro w hSw; (try dsimp only at hSw); go_simp; try with_reducible rfl)
      simp only [Act.put, List.getElem_toArray, List.getElem_cons_zero, List.getElem_cons_succ, List.setIfInBounds_toArray, List.set_cons_zero, List.set_cons_succ]
      refine wpAnyH_done (by kernel_rfl) ?_ _
      clear hS hi2 hi2z hq
      have HBD : Hid (Below w4.heap.size w4 w8.drew) := Below.drew HB8.out
      cases q with
      | true =>
        have HON : Hid (o = none) := HNO.out.2 ⟨by rw [HRB.out]; exact eq_of_beq HQ.out, (eq_of_beq HSB.out).symm⟩
        have hoS : o.isSome = false := by rw [HON.out]; rfl
        have HX0 : Hid (xn = 0 ∧ yn = 0) := by
          obtain ⟨q1, q2⟩ := HT4.out _ (Below.refl _ _)
          rw [HON.out] at q1 q2
          exact ⟨q1.1.1.symm, q2.1.1.symm⟩
        have hx0 : ((xn : Int) == 0) = true := by rw [HX0.out.1]; rfl
        have hy0 : ((yn : Int) == 0) = true := by rw [HX0.out.2]; rfl
        have hx1 : (xn : Int) = 0 := by rw [HX0.out.1]; rfl
        have hy1 : (yn : Int) = 0 := by rw [HX0.out.2]; rfl
        try clear HCT
        clear HNO HCL HSB HP HO HCK HRT HRB HRF HQ HON HX0
        go_wp2_with fail
        go_ret
        exact ⟨rfl, HBW.out _ (HW4.out _ HBD.out)⟩
      | false =>
        have HEX : Hid (∃ x y, o = some (x, y) ∧ x ≠ y ∧ keptZ z x = keptZ z y) := by
          cases ho : o with
          | none =>
            have h := (HNO.out.1 ho).1
            have h2 := HQ.out
            rw [h, HRB.out, beq_self_eq_true] at h2
            cases h2
          | some p => exact ⟨p.1, p.2, rfl, HCL.out p.1 p.2 ho⟩
        clear HNO HCL HSB HP HO HCK HRT HRB HRF HQ
        obtain ⟨x, y, ho, hxy0, hxk0⟩ := HEX.out
        have HON : Hid (o = some (x, y)) := ho
        have hoS : o.isSome = true := by rw [HON.out]; rfl
        clear ho
        have HXY : Hid (x ≠ y) := hxy0
        have HXK : Hid (keptZ z x = keptZ z y) := hxk0
        clear hxy0 hxk0
        have HTX : Hid (∀ W, Below w4.heap.size w4 W → TxV W xa xn xc x ∧ TxV W ya yn yc y) := fun W hW => by have h := HT4.out W hW; rw [HON.out] at h; exact h
        have sa := str_bytes xc (HTX.out _ HBD.out).1.1
        have sb := str_bytes yc (HTX.out _ HBD.out).2.1
        have hxy : (x == y) = false := by rw [beq_eq_false_iff_ne]; exact HXY.out
        have hxz := HS4.out _ HBD.out
        have HOT : Hid (∀ W, Below w4.heap.size w4 W → Calls Tryd.prog 50 #[.agg #[.int .i64 z], .slice xa xn xc, .slice ya yn yc] W fun e w' => e = .returned (.bool true) ∧ Below W.heap.size W w') := fun W hW => by
          have h := ofTexts_any z xa xn xc x ya yn yc y W (HTX.out _ hW).1 (HTX.out _ hW).2 (HKB3.out _ (HW4.out _ hW)).1 (HKB3.out _ (HW4.out _ hW)).2 HZ.out
          rw [oft_true HXY.out HXK.out] at h; exact h
        clear HXY HXK HON HEX
        try clear hnzb hnzc hnzd
        try clear hiz
        try clear HLM HAL HAL2 HR HNE HLN
        go_wp2_with fail
        refine (HOT.out _ HBD.out).mono ?_
        rintro e wz ⟨rfl, hbz⟩
        have HBZ : Hid (Below w4.heap.size w4 wz) := HBD.out.trans (hbz.mono HBD.out.size)
        clear hbz sa sb hxy hxz
        go_wp2_with fail
        go_ret
        exact ⟨rfl, HBW.out _ (HW4.out _ HBZ.out)⟩
end Go.Proofs.YtaebpnednhkfhaaDoor
