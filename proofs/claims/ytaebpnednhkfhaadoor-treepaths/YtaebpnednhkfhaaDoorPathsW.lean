/-
  The walk of marlstonelaw05.TreePaths.
-/
import Derived.Test.YtaebpnednhkfhaaDoorShown
import Derived.Test.YtaebpnednhkfhaaDoorRefRng
namespace Go.Proofs.YtaebpnednhkfhaaDoor
open Go.RowKit
theorem pathD_short (z : Int) (ls : List LV) (x : Int) : (pathD z ls x).length ≤ 64 := by
  unfold pathD
  split
  · rw [besideD, List.length_map, spanS, List.length_map]; exact upL_len _ _
  · simp
theorem rangeD_short (z : Int) (ls : List LV) (x y : Int) (h : ls.length ≤ 1000) : (rangeD z ls x y).length ≤ 127 := by
  unfold rangeD
  split
  · rw [besideD, List.length_map]; exact outL_len (by omega) (by omega) (by omega)
  · simp
set_option maxRecDepth 100000 in
set_option maxHeartbeats 20000000 in
theorem paths_walk (z : Int) (a0 : Option Addr) (n0 c0 : Nat) (b off : Nat) (ps : List PP) (x y : Int) (w : World) (hP : Pieces w b off ps) (hn : ps.length = n0) (ha : 0 < n0 → a0 = some ⟨b, off, none⟩) (hK : WW w 0 ks) (h0 : 0 < w.heap.size) (hz : -9223372036854775808 ≤ z ∧ z ≤ 9223372036854775807) :
    Calls Tryd.prog 4 #[.int .i64 z, .slice a0 n0 c0, .int .i64 x, .int .i64 y] w fun e w' => e = .returned (.bool true) ∧ Below w.heap.size w w' := by
  have HKW : Hid (WW w 0 ks ∧ 0 < w.heap.size) := ⟨hK, h0⟩
  have HSH : Hid (∀ W, Below w.heap.size w W → Calls Tryd.prog 20 #[] W fun e w' => e = .returned (.bool true) ∧ Below W.heap.size W w') := fun W hW => shown_any W (hK.below hW h0) (Nat.lt_of_lt_of_le h0 hW.size)
  have HSM : Hid (∀ W, Below w.heap.size w W → Calls Tryd.prog 21 #[.slice a0 n0 c0] W fun e w' => ∃ ao' n' c', e = .returned (.slice ao' n' c') ∧ CutV w' ao' n' c' (cutL ps 70 200) ∧ n' ≤ 70 ∧ Below W.heap.size W w') := fun W hW => small_any b off n0 c0 a0 ps W (hP.below hW (Nat.le_refl _)) hn ha
  have HZ : Hid (-9223372036854775808 ≤ z ∧ z ≤ 9223372036854775807) := hz
  clear hP hn ha hK h0 hz
  go_enter Tryd.func4, Tryd.ntmps4
  go_wp2_with fail
  refine (HSH.out _ (Below.refl w.heap.size w)).mono ?_
  rintro e w1 ⟨rfl, hb1⟩
  have HB1 : Hid (Below w.heap.size w w1) := (Below.refl w.heap.size w).trans (hb1.mono (Below.refl w.heap.size w).size)
  have HB01 : Hid (Below _ _ w1) := hb1
  clear hb1
  go_wp2_with fail
  refine (HSM.out _ HB1.out).mono ?_
  rintro e w2 ⟨ao, n, c, rfl, ⟨ls, hL, hE⟩, hn70, hb2⟩
  have HLV : Hid (LeavesV w2 ao n c ls) := hL
  have HEL : Hid (bytesL ls = cutL ps 70 200) := hE
  have HN70 : Hid (n ≤ 70) := hn70
  have HB2 : Hid (Below w.heap.size w w2) := HB1.out.trans (hb2.mono HB1.out.size)
  have HB02 : Hid (Below _ _ w2) := HB01.out.trans (hb2.mono HB01.out.size)
  have HKB : Hid (∀ W, Below w2.heap.size w2 W → WW W 0 ks ∧ 0 < W.heap.size) := fun W hW => by
    have h1 := HB2.out.trans (hW.mono HB2.out.size)
    exact ⟨HKW.out.1.below h1 HKW.out.2, Nat.lt_of_lt_of_le HKW.out.2 h1.size⟩
  clear hL hE hn70 hb2 HB1 HSH HSM HB01
  go_wp2_with fail
  refine (texts_any ao n c ls w2 HLV.out (Nat.le_trans HN70.out (by omega))).mono ?_
  rintro e wT ⟨aoS, cS, rfl, hst, hbT⟩
  have HST : Hid (StrV wT aoS n cS (strs ls)) := hst
  have HBT : Hid (Below w2.heap.size w2 wT) := hbT
  have HLVT : Hid (LeavesV wT ao n c ls) := HLV.out.below hbT (Nat.le_refl _)
  have HB2T : Hid (Below w.heap.size w wT) := HB2.out.trans (hbT.mono HB2.out.size)
  have HKBT : Hid (∀ W, Below wT.heap.size wT W → WW W 0 ks ∧ 0 < W.heap.size) := fun W hW => HKB.out W (HBT.out.trans (hW.mono HBT.out.size))
  have HSZ : Hid (∀ s ∈ strs ls, s.size ≤ 1000) := fun s hs => by
    obtain ⟨p, hp, rfl⟩ := List.mem_map.1 hs
    have h1 : p.bs ∈ bytesL ls := List.mem_map.2 ⟨p, hp, rfl⟩
    rw [HEL.out] at h1
    obtain ⟨q, -, h2⟩ := List.mem_map.1 h1
    show p.bs.toArray.size ≤ 1000
    rw [List.size_toArray, ← h2, List.length_take]
    omega
  clear hst hbT
  obtain ⟨w3, HW3⟩ : ∃ W, Hid (wT.alloc (Obj.cells #[Value.int IntKind.i64 z] 30) = W) := ⟨_, rfl⟩
  have HB3 : Hid (Below wT.heap.size wT w3) := by show Below _ _ _; rw [← HW3.out]; exact bel_alloc _ _
  have HN3 : Hid (w3.heap[wT.heap.size]? = some (.cells #[Value.int IntKind.i64 z] 30 (0, 0))) := by show _ = _; rw [← HW3.out]; exact heap_alloc_new _ _
  have HKB3 : Hid (∀ W, Below w3.heap.size w3 W → WW W 0 ks ∧ 0 < W.heap.size) := fun W hW => HKBT.out W (HB3.out.trans (hW.mono HB3.out.size))
  have HLV3 : Hid (∀ W, Below w3.heap.size w3 W → LeavesV W ao n c ls) := fun W hW => (HLVT.out.below HB3.out (Nat.le_refl _)).below hW (Nat.le_refl _)
  have HBW : Hid (∀ W, Below w3.heap.size w3 W → Below w.heap.size w W) := fun W hW => HB2T.out.trans ((HB3.out.trans (hW.mono HB3.out.size)).mono HB2T.out.size)
  have HNC : Hid (n ≤ c ∧ c ≤ 9223372036854775807) := ⟨HLVT.out.2.1, HLVT.out.2.2.1⟩
  have HCZ : Hid (∀ W, Below w3.heap.size w3 W → W.cell? ⟨wT.heap.size, 0, none⟩ = some (.int .i64 z)) := fun W hW => bel_cell2 hW (Nat.le_refl _) (by rw [cell_of_row w3 _ 0 _ _ _ HN3.out]; rfl)
  have HN1 : Hid (n ≤ 1000) := Nat.le_trans HN70.out (by omega)
  have HLL : Hid (ls.length ≤ 1000) := by show _ ≤ _; rw [HLV.out.1]; exact HN1.out
  have HST3 : Hid (∀ W, Below w3.heap.size w3 W → StrV W aoS n cS (strs ls)) := fun W hW => (HST.out.below HB3.out (Nat.le_refl _)).below hW (Nat.le_refl _)
  have C1 : Hid (∀ W, Below w3.heap.size w3 W → Calls Tryd.prog 33 #[.agg #[.int .i64 z], .slice ao n c, .int .i64 x] W fun e w' => ∃ v, e = .returned (.tuple #[v, .int .i64 (pathE n x)]) ∧ DgV w' W.heap.size v (pathD z ls x) ∧ Below W.heap.size W w') := fun W hW => path_any z ao n c ls x W (HLV3.out W hW) HN1.out (HKB3.out W hW).1 (HKB3.out W hW).2 HZ.out
  have C2 : Hid (∀ W, Below w3.heap.size w3 W → Calls Tryd.prog 34 #[.int .i64 z, .slice aoS n cS, .int .i64 x] W fun e w' => ∃ v, e = .returned (.tuple #[v, .int .i64 (pathE n x)]) ∧ DgO w' W.heap.size v (pathD z ls x) ∧ Below W.heap.size W w') := fun W hW => refPath_any z HZ.out aoS n cS ls x W (HST3.out W hW) HN1.out HSZ.out
  have C3 : Hid (∀ W, Below w3.heap.size w3 W → Calls Tryd.prog 35 #[.agg #[.int .i64 z], .slice ao n c, .int .i64 x, .int .i64 y] W fun e w' => ∃ v, e = .returned (.tuple #[v, .int .i64 (rangeE n x y)]) ∧ DgV w' W.heap.size v (rangeD z ls x y) ∧ Below W.heap.size W w') := fun W hW => range_any z ao n c ls x y W (HLV3.out W hW) HN1.out (HKB3.out W hW).1 (HKB3.out W hW).2 HZ.out
  have C4 : Hid (∀ W, Below w3.heap.size w3 W → Calls Tryd.prog 36 #[.int .i64 z, .slice aoS n cS, .int .i64 x, .int .i64 y] W fun e w' => ∃ v, e = .returned (.tuple #[v, .int .i64 (rangeE n x y)]) ∧ DgO w' W.heap.size v (rangeD z ls x y) ∧ Below W.heap.size W w') := fun W hW => refRange_any z HZ.out aoS n cS ls x y W (HST3.out W hW) HN1.out HSZ.out
  have C5 : Hid (∀ W, Below w3.heap.size w3 W → Calls Tryd.prog 38 #[.slice ao n c, .int .i64 x] W fun e w' => ∃ v, e = .returned (.tuple #[v, .int .i64 (pathE n x)]) ∧ DgV w' W.heap.size v (pathD 256 ls x) ∧ Below W.heap.size W w') := fun W hW => pathN_any ao n c ls x W (HLV3.out W hW) HN1.out (HKB3.out W hW).1 (HKB3.out W hW).2
  have C6 : Hid (∀ W, Below w3.heap.size w3 W → Calls Tryd.prog 34 #[.int .i64 256, .slice aoS n cS, .int .i64 x] W fun e w' => ∃ v, e = .returned (.tuple #[v, .int .i64 (pathE n x)]) ∧ DgO w' W.heap.size v (pathD 256 ls x) ∧ Below W.heap.size W w') := fun W hW => refPath_any 256 z256 aoS n cS ls x W (HST3.out W hW) HN1.out HSZ.out
  have C7 : Hid (∀ W, Below w3.heap.size w3 W → Calls Tryd.prog 39 #[.slice ao n c, .int .i64 x, .int .i64 y] W fun e w' => ∃ v, e = .returned (.tuple #[v, .int .i64 (rangeE n x y)]) ∧ DgV w' W.heap.size v (rangeD 256 ls x y) ∧ Below W.heap.size W w') := fun W hW => rangeN_any ao n c ls x y W (HLV3.out W hW) HN1.out (HKB3.out W hW).1 (HKB3.out W hW).2
  have C8 : Hid (∀ W, Below w3.heap.size w3 W → Calls Tryd.prog 36 #[.int .i64 256, .slice aoS n cS, .int .i64 x, .int .i64 y] W fun e w' => ∃ v, e = .returned (.tuple #[v, .int .i64 (rangeE n x y)]) ∧ DgO w' W.heap.size v (rangeD 256 ls x y) ∧ Below W.heap.size W w') := fun W hW => refRange_any 256 z256 aoS n cS ls x y W (HST3.out W hW) HN1.out HSZ.out
  obtain ⟨P, HP⟩ : ∃ P, Hid (pathD z ls x = P) := ⟨_, rfl⟩
  obtain ⟨R, HR⟩ : ∃ P, Hid (rangeD z ls x y = P) := ⟨_, rfl⟩
  obtain ⟨PQ, HPQ⟩ : ∃ P, Hid (pathD 256 ls x = P) := ⟨_, rfl⟩
  obtain ⟨RQ, HRQ⟩ : ∃ P, Hid (rangeD 256 ls x y = P) := ⟨_, rfl⟩
  have HPl : Hid (P.length ≤ 64) := by show _ ≤ _; rw [← HP.out]; exact pathD_short _ _ _
  have HRl : Hid (R.length ≤ 127) := by show _ ≤ _; rw [← HR.out]; exact rangeD_short _ _ _ _ HLL.out
  have HPQl : Hid (PQ.length ≤ 64) := by show _ ≤ _; rw [← HPQ.out]; exact pathD_short _ _ _
  have HRQl : Hid (RQ.length ≤ 127) := by show _ ≤ _; rw [← HRQ.out]; exact rangeD_short _ _ _ _ HLL.out
  obtain ⟨e1, HE1⟩ : ∃ q, Hid (pathE n x = q) := ⟨_, rfl⟩
  obtain ⟨e2, HE2⟩ : ∃ q, Hid (rangeE n x y = q) := ⟨_, rfl⟩
  rw [HP.out, HE1.out] at C1 C2
  rw [HR.out, HE2.out] at C3 C4
  rw [HPQ.out, HE1.out] at C5 C6
  rw [HRQ.out, HE2.out] at C7 C8
  go_wp2_with fail
  rw [HW3.out]
  clear HW3
  refine (C1.out _ (Below.refl _ _)).mono ?_
  rintro e w4 ⟨v4, rfl, hd4, hb4⟩
  obtain ⟨ao4, c4, rfl, -, -, hp4⟩ := hd4.o.path
  have HB4 : Hid (Below w3.heap.size w3 w4) := hb4
  have HV4 : Hid (PathV w4 ao4 P) := hp4
  have hcz := HCZ.out
  clear hd4 hb4 hp4
  go_wp2_with fail
  refine (C2.out _ HB4.out).mono ?_
  rintro e w5 ⟨v5, rfl, hd5, hb5⟩
  obtain ⟨ao5, c5, rfl, -, -, hp5⟩ := hd5.path
  have HB5 : Hid (Below w3.heap.size w3 w5) := HB4.out.trans (hb5.mono HB4.out.size)
  have HV5 : Hid (PathV w5 ao5 P) := hp5
  have HX5 : Hid (Below w4.heap.size w4 w5) := hb5
  clear hd5 hb5 hp5
  have hc5 := hcz w5 HB5.out
  go_wp2_with fail
  refine (C3.out _ HB5.out).mono ?_
  rintro e w6 ⟨v6, rfl, hd6, hb6⟩
  obtain ⟨ao6, c6, rfl, -, -, hp6⟩ := hd6.o.path
  have HB6 : Hid (Below w3.heap.size w3 w6) := HB5.out.trans (hb6.mono HB5.out.size)
  have HV6 : Hid (PathV w6 ao6 R) := hp6
  have HX6 : Hid (Below w5.heap.size w5 w6) := hb6
  clear hd6 hb6 hp6
  go_wp2_with fail
  refine (C4.out _ HB6.out).mono ?_
  rintro e w7 ⟨v7, rfl, hd7, hb7⟩
  obtain ⟨ao7, c7, rfl, -, -, hp7⟩ := hd7.path
  have HB7 : Hid (Below w3.heap.size w3 w7) := HB6.out.trans (hb7.mono HB6.out.size)
  have HV7 : Hid (PathV w7 ao7 R) := hp7
  have HX7 : Hid (Below w6.heap.size w6 w7) := hb7
  clear hd7 hb7 hp7
  have HX47 : Hid (Below w4.heap.size w4 w7) := HX5.out.trans ((HX6.out.trans (HX7.out.mono HX6.out.size)).mono HX5.out.size)
  have HX57 : Hid (Below w5.heap.size w5 w7) := HX6.out.trans (HX7.out.mono HX6.out.size)
  have HS8 : Hid (Calls Tryd.prog 37 #[.slice ao4 P.length c4, .slice ao5 P.length c5] w7 fun e w' => e = .returned (.bool true) ∧ Below w7.heap.size w7 w') := by
    have h := same_any ao4 c4 P ao5 c5 P w7 (HV4.out.below HX47.out (Nat.le_refl _)) (HV5.out.below HX57.out (Nat.le_refl _)) (Nat.le_trans HPl.out (by decide))
    rw [beq_self_eq_true] at h
    exact h
  go_wp2_with fail
  refine Calls.mono HS8.out ?_
  rintro e w8 ⟨rfl, hb8⟩
  have HB8 : Hid (Below w3.heap.size w3 w8) := HB7.out.trans (hb8.mono HB7.out.size)
  have HD8 : Hid (Below w7.heap.size w7 w8) := hb8
  clear hb8 HS8
  have HX68 : Hid (Below w6.heap.size w6 w8) := HX7.out.trans (HD8.out.mono HX7.out.size)
  have HS9 : Hid (Calls Tryd.prog 37 #[.slice ao6 R.length c6, .slice ao7 R.length c7] w8 fun e w' => e = .returned (.bool true) ∧ Below w8.heap.size w8 w') := by
    have h := same_any ao6 c6 R ao7 c7 R w8 (HV6.out.below HX68.out (Nat.le_refl _)) (HV7.out.below HD8.out (Nat.le_refl _)) (Nat.le_trans HRl.out (by decide))
    rw [beq_self_eq_true] at h
    exact h
  go_wp2_with fail
  refine Calls.mono HS9.out ?_
  rintro e w9 ⟨rfl, hb9⟩
  have HB9 : Hid (Below w3.heap.size w3 w9) := HB8.out.trans (hb9.mono HB8.out.size)
  have HD9 : Hid (Below w8.heap.size w8 w9) := hb9
  clear hb9 HS9
  go_wp2_with fail
  refine (C5.out _ HB9.out).mono ?_
  rintro e w10 ⟨v10, rfl, hd10, hb10⟩
  obtain ⟨ao10, c10, rfl, -, -, hp10⟩ := hd10.o.path
  have HB10 : Hid (Below w3.heap.size w3 w10) := HB9.out.trans (hb10.mono HB9.out.size)
  have HV10 : Hid (PathV w10 ao10 PQ) := hp10
  clear hd10 hb10 hp10
  go_wp2_with fail
  refine (C6.out _ HB10.out).mono ?_
  rintro e w11 ⟨v11, rfl, hd11, hb11⟩
  obtain ⟨ao11, c11, rfl, -, -, hp11⟩ := hd11.path
  have HB11 : Hid (Below w3.heap.size w3 w11) := HB10.out.trans (hb11.mono HB10.out.size)
  have HV11 : Hid (PathV w11 ao11 PQ) := hp11
  have HX11 : Hid (Below w10.heap.size w10 w11) := hb11
  clear hd11 hb11 hp11
  go_wp2_with fail
  refine (C7.out _ HB11.out).mono ?_
  rintro e w12 ⟨v12, rfl, hd12, hb12⟩
  obtain ⟨ao12, c12, rfl, -, -, hp12⟩ := hd12.o.path
  have HB12 : Hid (Below w3.heap.size w3 w12) := HB11.out.trans (hb12.mono HB11.out.size)
  have HV12 : Hid (PathV w12 ao12 RQ) := hp12
  have HX12 : Hid (Below w11.heap.size w11 w12) := hb12
  clear hd12 hb12 hp12
  go_wp2_with fail
  refine (C8.out _ HB12.out).mono ?_
  rintro e w13 ⟨v13, rfl, hd13, hb13⟩
  obtain ⟨ao13, c13, rfl, -, -, hp13⟩ := hd13.path
  have HB13 : Hid (Below w3.heap.size w3 w13) := HB12.out.trans (hb13.mono HB12.out.size)
  have HV13 : Hid (PathV w13 ao13 RQ) := hp13
  have HX13 : Hid (Below w12.heap.size w12 w13) := hb13
  clear hd13 hb13 hp13
  have HXA : Hid (Below w11.heap.size w11 w13) := HX12.out.trans (HX13.out.mono HX12.out.size)
  have HXB : Hid (Below w10.heap.size w10 w13) := HX11.out.trans (HXA.out.mono HX11.out.size)
  have HS14 : Hid (Calls Tryd.prog 37 #[.slice ao10 PQ.length c10, .slice ao11 PQ.length c11] w13 fun e w' => e = .returned (.bool true) ∧ Below w13.heap.size w13 w') := by
    have h := same_any ao10 c10 PQ ao11 c11 PQ w13 (HV10.out.below HXB.out (Nat.le_refl _)) (HV11.out.below HXA.out (Nat.le_refl _)) (Nat.le_trans HPQl.out (by decide))
    rw [beq_self_eq_true] at h
    exact h
  go_wp2_with fail
  refine Calls.mono HS14.out ?_
  rintro e w14 ⟨rfl, hb14⟩
  have HB14 : Hid (Below w3.heap.size w3 w14) := HB13.out.trans (hb14.mono HB13.out.size)
  have HD14 : Hid (Below w13.heap.size w13 w14) := hb14
  clear hb14 HS14
  have HXC : Hid (Below w12.heap.size w12 w14) := HX13.out.trans (HD14.out.mono HX13.out.size)
  have HS15 : Hid (Calls Tryd.prog 37 #[.slice ao12 RQ.length c12, .slice ao13 RQ.length c13] w14 fun e w' => e = .returned (.bool true) ∧ Below w14.heap.size w14 w') := by
    have h := same_any ao12 c12 RQ ao13 c13 RQ w14 (HV12.out.below HXC.out (Nat.le_refl _)) (HV13.out.below HD14.out (Nat.le_refl _)) (Nat.le_trans HRQl.out (by decide))
    rw [beq_self_eq_true] at h
    exact h
  go_wp2_with fail
  refine Calls.mono HS15.out ?_
  rintro e w15 ⟨rfl, hb15⟩
  have HB15 : Hid (Below w3.heap.size w3 w15) := HB14.out.trans (hb15.mono HB14.out.size)
  have HD15 : Hid (Below w14.heap.size w14 w15) := hb15
  clear hb15 HS15
  have HSTL : Hid (Calls Tryd.prog 32 #[.slice ao n c, .slice aoS n cS] w15 fun e w' => e = .returned (.bool true) ∧ Below w15.heap.size w15 w') := still_any ao n c ls aoS cS w15 (HLV3.out w15 HB15.out) (HST3.out w15 HB15.out) HN1.out
  go_wp2_with fail
  refine Calls.mono HSTL.out ?_
  rintro e wz ⟨rfl, hbz⟩
  have HBZ : Hid (Below w3.heap.size w3 wz) := HB15.out.trans (hbz.mono HB15.out.size)
  clear hbz
  go_wp2_with fail
  go_ret
  exact ⟨rfl, HBW.out _ HBZ.out⟩
end Go.Proofs.YtaebpnednhkfhaaDoor
