/-
  The walk of marlstonelaw05.TreeCheckRanges.
-/
import Derived.Test.YtaebpnednhkfhaaDoorShown
import Derived.Test.YtaebpnednhkfhaaDoorRefCr
namespace Go.Proofs.YtaebpnednhkfhaaDoor
open Go.RowKit
set_option maxRecDepth 100000 in
set_option maxHeartbeats 20000000 in
theorem crs_walk (z : Int) (root : List UInt8) (m0 x : Int) (a0 : Option Addr) (n0 c0 : Nat) (b off : Nat) (ps : List PP) (pa : Option Addr) (pn pc : Nat) (ds : List (List UInt8)) (w : World) (hP : Pieces w b off ps) (hn : ps.length = n0) (ha : 0 < n0 → a0 = some ⟨b, off, none⟩) (hK : WW w 0 ks) (h0 : 0 < w.heap.size) (hz : -9223372036854775808 ≤ z ∧ z ≤ 9223372036854775807) (hroot : root.length = 32) (hm0 : m0 ≤ 9223372036854775807)
    (hPv : PathV w pa ds) (hpl : ds.length = pn) (hpc : pn ≤ pc) (hp0 : pa = none → pc = 0) (hp1 : 0 < pc → ∃ b off, pa = some ⟨b, off, none⟩) :
    Calls Tryd.prog 6 #[.int .i64 z, dv root, .int .i64 m0, .int .i64 x, .slice a0 n0 c0, .slice pa pn pc] w fun e w' => e = .returned (.bool true) ∧ Below w.heap.size w w' := by
  have HKW : Hid (WW w 0 ks ∧ 0 < w.heap.size) := ⟨hK, h0⟩
  have HSH : Hid (∀ W, Below w.heap.size w W → Calls Tryd.prog 20 #[] W fun e w' => e = .returned (.bool true) ∧ Below W.heap.size W w') := fun W hW => shown_any W (hK.below hW h0) (Nat.lt_of_lt_of_le h0 hW.size)
  have HSM : Hid (∀ W, Below w.heap.size w W → Calls Tryd.prog 21 #[.slice a0 n0 c0] W fun e w' => ∃ ao' n' c', e = .returned (.slice ao' n' c') ∧ CutV w' ao' n' c' (cutL ps 70 200) ∧ n' ≤ 70 ∧ Below W.heap.size W w') := fun W hW => small_any b off n0 c0 a0 ps W (hP.below hW (Nat.le_refl _)) hn ha
  have HZ : Hid (-9223372036854775808 ≤ z ∧ z ≤ 9223372036854775807) := hz
  clear hP hn ha hK h0 hz
  obtain ⟨m, HM⟩ : ∃ m : Nat, Hid (min pn 140 = m) := ⟨_, rfl⟩
  have hm : min (pn : Int) 140 = (m : Int) := by have := HM.out; omega
  have hmc : (m : Int) ≤ (pc : Int) := by have := HM.out; omega
  have HMB : Hid (m ≤ 140 ∧ m ≤ pc) := by show _ ∧ _; have := HM.out; omega
  obtain ⟨P, HPD⟩ : ∃ P, Hid (ds.take m = P) := ⟨_, rfl⟩
  have HPL : Hid (P.length = m) := by show _ = _; rw [← HPD.out, List.length_take]; have := HM.out; omega
  have HPV : Hid (∀ W, Below w.heap.size w W → PathV W pa P) := fun W hW => by rw [← HPD.out]; exact (hPv.below hW (Nat.le_refl _)).take m
  have HP01 : Hid ((pa = none → pc = 0) ∧ (0 < pc → ∃ b off, pa = some ⟨b, off, none⟩)) := ⟨hp0, hp1⟩
  have HMX : Hid (m0 ≤ 9223372036854775807) := hm0
  have HRL : Hid (root.length = 32) := hroot
  have HIR : Hid ((Tryd.prog.info? 24).map (·.size) = some (cellsOf root).toArray.size) := by show _ = _; rw [size24, dig_size hroot]
  clear hroot hm0 hPv hpl hpc hp0 hp1
  unfold dv
  obtain ⟨cr, HCR⟩ : ∃ c, Hid ((cellsOf root).toArray = c) := ⟨_, rfl⟩
  rw [HCR.out] at HIR ⊢
  go_enter Tryd.func6, Tryd.ntmps6
  have HN0 : Hid ((w.alloc (.cells cr 24)).heap[w.heap.size]? = some (.cells cr 24 (0, 0))) := heap_alloc_new w _
  go_wp2_with fail
  refine (HSH.out _ (bel_alloc w (Obj.cells cr 24))).mono ?_
  rintro e w1 ⟨rfl, hb1⟩
  have HB1 : Hid (Below w.heap.size w w1) := (bel_alloc w (Obj.cells cr 24)).trans (hb1.mono (bel_alloc w (Obj.cells cr 24)).size)
  have HB01 : Hid (Below _ _ w1) := hb1
  clear hb1
  go_wp2_with fail
  refine (HSM.out _ HB1.out).mono ?_
  rintro e w2 ⟨ao, n, c, rfl, ⟨ls, hL, hE⟩, hn70, hb2⟩
  have HLV : Hid (LeavesV w2 ao n c ls) := hL
  have HEL : Hid (bytesL ls = cutL ps 70 200) := hE
  have HN70 : Hid (n ≤ 70) := hn70
  have HB2 : Hid (Below w.heap.size w w2) := HB1.out.trans (hb2.mono HB1.out.size)
  have HB02 : Hid (Below _ _ w2) := HB01.out.trans (hb2.mono HB01.out.size)
  have HKB : Hid (∀ W, Below w2.heap.size w2 W → WW W 0 ks ∧ 0 < W.heap.size) := fun W hW => by
    have h1 := HB2.out.trans (hW.mono HB2.out.size)
    exact ⟨HKW.out.1.below h1 HKW.out.2, Nat.lt_of_lt_of_le HKW.out.2 h1.size⟩
  clear hm hmc
  clear hL hE hn70 hb2 HB1 HSH HSM HB01
  go_wp2_with fail
  refine (texts_any ao n c ls w2 HLV.out (Nat.le_trans HN70.out (by omega))).mono ?_
  rintro e wT ⟨aoS, cS, rfl, hst, hbT⟩
  have HST : Hid (StrV wT aoS n cS (strs ls)) := hst
  have HBT : Hid (Below w2.heap.size w2 wT) := hbT
  have HLVT : Hid (LeavesV wT ao n c ls) := HLV.out.below hbT (Nat.le_refl _)
  have HB2T : Hid (Below w.heap.size w wT) := HB2.out.trans (hbT.mono HB2.out.size)
  have HKBT : Hid (∀ W, Below wT.heap.size wT W → WW W 0 ks ∧ 0 < W.heap.size) := fun W hW => HKB.out W (HBT.out.trans (hW.mono HBT.out.size))
  have HSZ : Hid (∀ s ∈ strs ls, s.size ≤ 1000) := fun s hs => by
    obtain ⟨p, hp, rfl⟩ := List.mem_map.1 hs
    have h1 : p.bs ∈ bytesL ls := List.mem_map.2 ⟨p, hp, rfl⟩
    rw [HEL.out] at h1
    obtain ⟨q, -, h2⟩ := List.mem_map.1 h1
    show p.bs.toArray.size ≤ 1000
    rw [List.size_toArray, ← h2, List.length_take]
    omega
  clear hst hbT
  obtain ⟨w3, HW3⟩ : ∃ W, Hid (wT.alloc (Obj.cells #[Value.int IntKind.i64 z] 30) = W) := ⟨_, rfl⟩
  have HB3 : Hid (Below wT.heap.size wT w3) := by show Below _ _ _; rw [← HW3.out]; exact bel_alloc _ _
  have HN3 : Hid (w3.heap[wT.heap.size]? = some (.cells #[Value.int IntKind.i64 z] 30 (0, 0))) := by show _ = _; rw [← HW3.out]; exact heap_alloc_new _ _
  have HKB3 : Hid (∀ W, Below w3.heap.size w3 W → WW W 0 ks ∧ 0 < W.heap.size) := fun W hW => HKBT.out W (HB3.out.trans (hW.mono HB3.out.size))
  have HLV3 : Hid (∀ W, Below w3.heap.size w3 W → LeavesV W ao n c ls) := fun W hW => (HLVT.out.below HB3.out (Nat.le_refl _)).below hW (Nat.le_refl _)
  have HBW : Hid (∀ W, Below w3.heap.size w3 W → Below w.heap.size w W) := fun W hW => HB2T.out.trans ((HB3.out.trans (hW.mono HB3.out.size)).mono HB2T.out.size)
  have HNC : Hid (n ≤ c ∧ c ≤ 9223372036854775807) := ⟨HLVT.out.2.1, HLVT.out.2.2.1⟩
  have HCZ : Hid (∀ W, Below w3.heap.size w3 W → W.cell? ⟨wT.heap.size, 0, none⟩ = some (.int .i64 z)) := fun W hW => bel_cell2 hW (Nat.le_refl _) (by rw [cell_of_row w3 _ 0 _ _ _ HN3.out]; rfl)
  have HN1 : Hid (n ≤ 1000) := Nat.le_trans HN70.out (by omega)
  have HST3 : Hid (∀ W, Below w3.heap.size w3 W → StrV W aoS n cS (strs ls)) := fun W hW => (HST.out.below HB3.out (Nat.le_refl _)).below hW (Nat.le_refl _)
  have HR3 : Hid (w3.heap[w.heap.size]? = some (.cells cr 24 (0, 0))) := by
    have e1 := (HB02.out.block _ (Array.getElem?_eq_some_iff.1 HN0.out).1).trans HN0.out
    have e2 := (HBT.out.block _ (Array.getElem?_eq_some_iff.1 e1).1).trans e1
    exact (HB3.out.block _ (Array.getElem?_eq_some_iff.1 e2).1).trans e2
  obtain ⟨r1, HR1⟩ : ∃ b, Hid (crB z root m0 x ls P = b) := ⟨_, rfl⟩
  obtain ⟨r2, HR2⟩ : ∃ b, Hid (crB 256 root m0 x ls P = b) := ⟨_, rfl⟩
  have C1 : Hid (∀ W, Below w3.heap.size w3 W → Calls Tryd.prog 43 #[.agg #[.int .i64 z], .agg cr, .int .i64 m0, .int .i64 x, .slice ao n c, .slice pa m pc] W fun e w' => e = .returned (.bool r1) ∧ Below W.heap.size W w') := fun W hW => by
    have h := crange_any z root m0 x ao n c ls pa m pc P W HRL.out HMX.out HPL.out HMB.out.2 (HPV.out W (HBW.out W hW)) (HLV3.out W hW) HN1.out (HKB3.out W hW).1 (HKB3.out W hW).2 HZ.out
    rw [HR1.out] at h; rw [← HCR.out]; exact h
  have C2 : Hid (∀ W, Below w3.heap.size w3 W → Calls Tryd.prog 44 #[.agg cr, .int .i64 m0, .int .i64 x, .slice ao n c, .slice pa m pc] W fun e w' => e = .returned (.bool r2) ∧ Below W.heap.size W w') := fun W hW => by
    have h := crangeN_any root m0 x ao n c ls pa m pc P W HRL.out HMX.out HPL.out HMB.out.2 (HPV.out W (HBW.out W hW)) (HLV3.out W hW) HN1.out (HKB3.out W hW).1 (HKB3.out W hW).2
    rw [HR2.out] at h; rw [← HCR.out]; exact h
  have C3 : Hid (∀ W, Below w3.heap.size w3 W → Calls Tryd.prog 45 #[.int .i64 z, .agg cr, .int .i64 m0, .int .i64 x, .slice aoS n cS, .slice pa m pc] W fun e w' => e = .returned (.bool r1) ∧ Below W.heap.size W w') := fun W hW => by
    have h := refCr_any z root m0 x aoS n cS ls pa m pc P W HRL.out HMX.out HN1.out HSZ.out (HST3.out W hW) (HPV.out W (HBW.out W hW)) HPL.out HMB.out.2 HP01.out.1 HP01.out.2 HZ.out
    rw [HR1.out] at h; rw [← HCR.out]; exact h
  have C4 : Hid (∀ W, Below w3.heap.size w3 W → Calls Tryd.prog 45 #[.int .i64 256, .agg cr, .int .i64 m0, .int .i64 x, .slice aoS n cS, .slice pa m pc] W fun e w' => e = .returned (.bool r2) ∧ Below W.heap.size W w') := fun W hW => by
    have h := refCr_any 256 root m0 x aoS n cS ls pa m pc P W HRL.out HMX.out HN1.out HSZ.out (HST3.out W hW) (HPV.out W (HBW.out W hW)) HPL.out HMB.out.2 HP01.out.1 HP01.out.2 z256
    rw [HR2.out] at h; rw [← HCR.out]; exact h
  have HRW : Hid (∀ W, Below w3.heap.size w3 W → W.heap[w.heap.size]? = some (.cells cr 24 (0, 0))) := fun W hW => (hW.block _ (Array.getElem?_eq_some_iff.1 HR3.out).1).trans HR3.out
  have hcz := HCZ.out w3 (Below.refl _ _)
  go_upto_region 6 with fail
  rw [HW3.out]
  clear HW3
  go_wp2_with (refine wpList_load_row rfl 24 (.tmp 7) rfl w.heap.size rfl 24 cr (0, 0) _ HR3.out Tryd.underlying24 rfl HIR.out ?_)
  refine (C1.out _ (Below.refl _ _)).mono ?_
  rintro e w6 ⟨rfl, hb6⟩
  have HB6 : Hid (Below w3.heap.size w3 w6) := hb6
  have HN6 : Hid _ := HRW.out w6 hb6
  clear hb6 hcz
  go_wp2_with (refine wpList_load_row rfl 24 (.tmp 7) rfl w.heap.size rfl 24 cr (0, 0) _ HN6.out Tryd.underlying24 rfl HIR.out ?_)
  refine (C2.out _ HB6.out).mono ?_
  rintro e w7 ⟨rfl, hb7⟩
  have HB7 : Hid (Below w3.heap.size w3 w7) := HB6.out.trans (hb7.mono HB6.out.size)
  clear hb7
  have HSTL : Hid (Calls Tryd.prog 32 #[.slice ao n c, .slice aoS n cS] w7 fun e w' => e = .returned (.bool true) ∧ Below w7.heap.size w7 w') := still_any ao n c ls aoS cS w7 (HLV3.out w7 HB7.out) (HST3.out w7 HB7.out) HN1.out
  go_wp2_with fail
  refine Calls.mono HSTL.out ?_
  rintro e w8 ⟨rfl, hb8⟩
  have HB8 : Hid (Below w3.heap.size w3 w8) := HB7.out.trans (hb8.mono HB7.out.size)
  have HN8 : Hid _ := HRW.out w8 HB8.out
  clear hb8
  go_wp2_with (refine wpList_load_rowG (by rfl) 24 (.tmp 7) rfl w.heap.size rfl 24 cr (0, 0) _ HN8.out Tryd.underlying24 rfl HIR.out ?_)
  refine (C3.out _ HB8.out).mono ?_
  rintro e w9 ⟨rfl, hb9⟩
  have HB9 : Hid (Below w3.heap.size w3 w9) := HB8.out.trans (hb9.mono HB8.out.size)
  have HN9 : Hid _ := HRW.out w9 HB9.out
  clear hb9
  go_wp2_with (refine wpList_load_rowG (by rfl) 24 (.tmp 7) rfl w.heap.size rfl 24 cr (0, 0) _ HN9.out Tryd.underlying24 rfl HIR.out ?_)
  refine (C4.out _ HB9.out).mono ?_
  rintro e wz ⟨rfl, hbz⟩
  have HBZ : Hid (Below w3.heap.size w3 wz) := HB9.out.trans (hbz.mono HB9.out.size)
  clear hbz
  go_wp2_with fail
  go_ret
  exact ⟨rfl, HBW.out _ HBZ.out⟩
end Go.Proofs.YtaebpnednhkfhaaDoor
