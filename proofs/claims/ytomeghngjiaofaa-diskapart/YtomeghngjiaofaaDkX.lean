/-
  marlstonelaw07's shown.
-/
import Derived.Test.YtomeghngjiaofaaDkQ
namespace Go.Proofs.Ytomeghngjiaofaa
open Go.RowKit
section
variable {own : Nat → Prop} {w w1 w' : World} {g : Nat} {A : Dk}
theorem DiskAt.back {N : Nat} (h : DiskAt (grow (here own w) w1) w' g A N) (hs : w.heap.size ≤ w1.heap.size) (hn : ∀ k, w.heap.size ≤ k → own k) : DiskAt own w' g A N := h.mono (fun k _ e => by
  rcases e with e | e
  · exact e.1
  · exact hn k (Nat.le_trans hs e)) (Nat.le_refl _)
theorem DiskAt.back1 {N : Nat} (h : DiskAt (grow own w) w' g A N) (hn : ∀ k, w.heap.size ≤ k → own k) : DiskAt own w' g A N := h.mono (fun k _ e => by
  rcases e with e | e
  · exact e
  · exact hn k e) (Nat.le_refl _)
theorem Only.thin (h : Only (here own w) w1 w') : Only own w1 w' := h.mono (fun _ e => .inl e.1)
theorem bytes_only {ao : Option Addr} {n : Nat} {bs : List UInt8} (h : Bytes w ao n bs) (ho : Only own w w') (hn : ∀ ad, ao = some ad → ¬ own ad.block) : Bytes w' ao n bs := by
  refine ⟨h.1, fun i c hc => ?_⟩
  obtain ⟨y, hy, hcell⟩ := h.2 i c hc
  have hbk : (y.add i).block = y.block := by unfold Addr.add; split <;> rfl
  have hlt := World.block_lt_of_cell? w _ hcell
  rw [hbk] at hlt
  exact ⟨y, hy, (World.cell?_of_block (by rw [hbk]; exact ho.block _ hlt (hn y hy))).trans hcell⟩
end
abbrev sA : ByteArray := ⟨#[97]⟩
abbrev sB : ByteArray := ⟨#[98]⟩
def sh1 : Dk := Dk.new 10
def sh2 : Dk := (sh1.create sA).2
def sh3 : Dk := (sh2.append sA [49, 50, 51, 52, 53]).2
def sh4 : Dk := (sh3.create sB).2
def sh5 : Dk := (sh4.append sB [54, 55]).2
def sh6 : Dk := (sh5.append sA [56]).2
def sh7 : Dk := (sh6.sync sB).2
def sh8 : Dk := sh7.crash 5
def sh9 : Dk := sh8.start
theorem sf1 : (sh1.create sA).1 = 0 := by kernel_rfl
theorem sf2 : (sh2.append sA [49, 50, 51, 52, 53]).1 = 0 := by kernel_rfl
theorem sf3 : (sh3.create sB).1 = 0 := by kernel_rfl
theorem sf4 : (sh4.append sB [54, 55]).1 = 0 := by kernel_rfl
theorem sf5 : (sh5.append sA [56]).1 = 0 := by kernel_rfl
theorem sf6 : (sh6.sync sB).1 = 0 := by kernel_rfl
theorem sr7 : sh7.read sA = ([49, 50, 51, 52, 53, 56], 0) := by kernel_rfl
theorem sr8 : sh8.read sA = ([], 6) := by kernel_rfl
theorem sr9 : sh9.read sA = ([49, 50, 51, 52, 53], 0) := by kernel_rfl
theorem sr9b : sh9.read sB = ([54, 55], 0) := by kernel_rfl
theorem sf9 : (sh9.append sA [49, 50, 51, 52]).1 = 4 := by kernel_rfl
theorem su9 : usedL (sh9.append sA [49, 50, 51, 52]).2.L = 7 := by kernel_rfl
theorem sd9 : (sh9.append sA [49, 50, 51, 52]).2.down = false := by kernel_rfl
theorem sk2 : usedL sh2.pre.L + 5 = 5 := by kernel_rfl
theorem sk4 : usedL sh4.pre.L + 2 = 7 := by kernel_rfl
theorem sk5 : usedL sh5.pre.L + 1 = 8 := by kernel_rfl
theorem sk9 : usedL sh9.pre.L + 4 = 11 := by kernel_rfl
theorem sk7 : usedL sh7.L = 8 := by kernel_rfl
theorem sk8 : usedL sh8.L = 7 := by kernel_rfl
theorem sk9' : usedL sh9.L = 7 := by kernel_rfl
/-- A text's bytes, as a constant's conversion lays them. -/
theorem const_bytes (w : World) (bs : List UInt8) (fr : Nat × Nat) : Bytes (w.alloc (.cells (cellsOf bs).toArray 5 fr)) (some ⟨w.heap.size, 0, none⟩) bs.length bs := block_bytes (World.alloc_heap_new w _)
set_option maxRecDepth 100000 in
set_option maxHeartbeats 2000000 in
theorem shown_any (w : World) : Calls Try.prog 11 #[] w fun e w' => e = .returned (.bool true) ∧ Below w.heap.size w w' := by
  have kc := fun (C : Array Value) (n c : Nat) (w : World) => Lib.run_convert_bytes_const (P := Try.prog) w 28 5 C n c Try.underlying28 Try.underlying5
  have kc5 := kc #[.int .u8 49, .int .u8 50, .int .u8 51, .int .u8 52, .int .u8 53] 5 5
  have kc2 := kc #[.int .u8 54, .int .u8 55] 2 2
  have kc1 := kc #[.int .u8 56] 1 1
  have kc4 := kc #[.int .u8 49, .int .u8 50, .int .u8 51, .int .u8 52] 4 4
  simp only [List.size_toArray, List.length_cons, List.length_nil, Nat.reduceAdd] at kc1 kc2 kc4 kc5
  clear kc
  go_enter Try.func11, Try.ntmps11
  go_wp2_with fail
  refine (new_at 10 10 w (by rfl) (by decide)).mono ?_
  rintro e w1 ⟨g, rfl, hBg, hd1, hb1⟩
  have HB1 : Hid (Below w.heap.size w w1) := hb1
  have HD1 : Hid (DiskAt (fun k => w.heap.size ≤ k) w1 g sh1 0) := hd1
  clear hd1 hb1
  go_wp2_with fail
  have hc1 := create_at HD1.out (by decide) sA (by decide)
  rw [sf1] at hc1
  refine hc1.mono ?_
  rintro e w2 ⟨rfl, hd, ho⟩
  have HB2 : Hid (Below w.heap.size w w2) := HB1.out.trans (ho.below (fun _ e => e) HB1.out.size)
  have HD2 : Hid (DiskAt (fun k => w.heap.size ≤ k) w2 g sh2 1) := hd.back1 (fun _ e => Nat.le_trans HB1.out.size e)
  clear hd ho hc1 HB1 HD1
  go_wp2_with fail
  have hby2 : Bytes (w2.alloc (.cells #[.int .u8 49, .int .u8 50, .int .u8 51, .int .u8 52, .int .u8 53] 5 (5, 6))) (some ⟨w2.heap.size, 0, none⟩) 5 [49, 50, 51, 52, 53] := const_bytes w2 [49, 50, 51, 52, 53] (5, 6)
  have hc2 := append_at (HD2.out.now.grown (bel_alloc w2 (.cells #[.int .u8 49, .int .u8 50, .int .u8 51, .int .u8 52, .int .u8 53] 5 (5, 6)))) (by decide) sA (by decide) (some ⟨w2.heap.size, 0, none⟩) 5 5 [49, 50, 51, 52, 53] hby2 (fun _ ad h => by cases h; exact fun e => absurd e.2 (Nat.lt_irrefl _)) (by decide) (.inr (by rw [sk2]; decide))
  rw [sf2] at hc2
  refine hc2.mono ?_
  rintro e w3 ⟨rfl, hd, ho⟩
  have HB3 : Hid (Below w.heap.size w w3) := (HB2.out.alloc HB2.out.size _).trans (ho.thin.below (fun _ e => e) (Nat.le_trans HB2.out.size (bel_alloc _ _).size))
  have HD3 : Hid (DiskAt (fun k => w.heap.size ≤ k) w3 g sh3 2) := hd.back (bel_alloc _ _).size (fun _ e => Nat.le_trans HB2.out.size e)
  clear hd ho hc2 hby2 HB2 HD2
  go_wp2_with fail
  have hc3 := create_at HD3.out (by decide) sB (by decide)
  rw [sf3] at hc3
  refine hc3.mono ?_
  rintro e w4 ⟨rfl, hd, ho⟩
  have HB4 : Hid (Below w.heap.size w w4) := HB3.out.trans (ho.below (fun _ e => e) HB3.out.size)
  have HD4 : Hid (DiskAt (fun k => w.heap.size ≤ k) w4 g sh4 3) := hd.back1 (fun _ e => Nat.le_trans HB3.out.size e)
  clear hd ho hc3 HB3 HD3
  go_wp2_with fail
  have hby4 : Bytes (w4.alloc (.cells #[.int .u8 54, .int .u8 55] 5 (2, 3))) (some ⟨w4.heap.size, 0, none⟩) 2 [54, 55] := const_bytes w4 [54, 55] (2, 3)
  have hc4 := append_at (HD4.out.now.grown (bel_alloc w4 (.cells #[.int .u8 54, .int .u8 55] 5 (2, 3)))) (by decide) sB (by decide) (some ⟨w4.heap.size, 0, none⟩) 2 2 [54, 55] hby4 (fun _ ad h => by cases h; exact fun e => absurd e.2 (Nat.lt_irrefl _)) (by decide) (.inr (by rw [sk4]; decide))
  rw [sf4] at hc4
  refine hc4.mono ?_
  rintro e w5 ⟨rfl, hd, ho⟩
  have HB5 : Hid (Below w.heap.size w w5) := (HB4.out.alloc HB4.out.size _).trans (ho.thin.below (fun _ e => e) (Nat.le_trans HB4.out.size (bel_alloc _ _).size))
  have HD5 : Hid (DiskAt (fun k => w.heap.size ≤ k) w5 g sh5 4) := hd.back (bel_alloc _ _).size (fun _ e => Nat.le_trans HB4.out.size e)
  clear hd ho hc4 hby4 HB4 HD4
  go_wp2_with fail
  have hby5 : Bytes (w5.alloc (.cells #[.int .u8 56] 5 (1, 2))) (some ⟨w5.heap.size, 0, none⟩) 1 [56] := const_bytes w5 [56] (1, 2)
  have hc5 := append_at (HD5.out.now.grown (bel_alloc w5 (.cells #[.int .u8 56] 5 (1, 2)))) (by decide) sA (by decide) (some ⟨w5.heap.size, 0, none⟩) 1 1 [56] hby5 (fun _ ad h => by cases h; exact fun e => absurd e.2 (Nat.lt_irrefl _)) (by decide) (.inr (by rw [sk5]; decide))
  rw [sf5] at hc5
  refine hc5.mono ?_
  rintro e w6 ⟨rfl, hd, ho⟩
  have HB6 : Hid (Below w.heap.size w w6) := (HB5.out.alloc HB5.out.size _).trans (ho.thin.below (fun _ e => e) (Nat.le_trans HB5.out.size (bel_alloc _ _).size))
  have HD6 : Hid (DiskAt (fun k => w.heap.size ≤ k) w6 g sh6 5) := hd.back (bel_alloc _ _).size (fun _ e => Nat.le_trans HB5.out.size e)
  clear hd ho hc5 hby5 HB5 HD5
  go_wp2_with fail
  have hc6 := sync_at HD6.out (by decide) sB (by decide)
  rw [sf6] at hc6
  refine hc6.mono ?_
  rintro e w7 ⟨rfl, hd, ho⟩
  have HB7 : Hid (Below w.heap.size w w7) := HB6.out.trans (ho.below (fun _ e => e) HB6.out.size)
  have HD7 : Hid (DiskAt (fun k => w.heap.size ≤ k) w7 g sh7 6) := hd.back1 (fun _ e => Nat.le_trans HB6.out.size e)
  clear hd ho hc6 HB6 HD6
  go_wp2_with fail
  have hc7 := read_at HD7.out sA (by decide) (by rw [sk7]; decide)
  rw [sr7] at hc7
  refine hc7.mono ?_
  rintro e w8 ⟨v, rfl, hown, hbel⟩
  obtain ⟨ro, rc, rfl, hby, -⟩ := own_bytes hown
  have hlo : ∀ ad, ro = some ad → w7.heap.size ≤ ad.block ∧ ad.block < w8.heap.size := fun ad h => by
    subst h; exact hown.lt _ rfl
  have HBA : Hid (Bytes w8 ro 6 [49, 50, 51, 52, 53, 56]) := hby
  have HLO : Hid (∀ ad, ro = some ad → w7.heap.size ≤ ad.block ∧ ad.block < w8.heap.size) := hlo
  have HB8 : Hid (Below w.heap.size w w8) := HB7.out.trans (hbel.mono HB7.out.size)
  have HZ : Hid (w.heap.size ≤ w7.heap.size ∧ w7.heap.size ≤ w8.heap.size) := ⟨HB7.out.size, hbel.size⟩
  obtain ⟨P, HP⟩ : ∃ P, Hid (P = fun k => w.heap.size ≤ k ∧ (k < w7.heap.size ∨ w8.heap.size ≤ k)) := ⟨_, rfl⟩
  have HD8 : Hid (DiskAt P w8 g sh7 6) := (HD7.out.now.grown hbel).mono (fun k _ e => by rw [HP.out]; exact ⟨e.1, .inl e.2⟩) (Nat.le_refl _)
  have HPB : Hid (∀ k, P k → w.heap.size ≤ k) := fun k e => by rw [HP.out] at e; exact e.1
  have HPN : Hid (∀ k, w8.heap.size ≤ k → P k) := fun k e => by rw [HP.out]; exact ⟨Nat.le_trans HB8.out.size e, .inr e⟩
  have HPO : Hid (∀ ad, ro = some ad → ¬ P ad.block) := fun ad h e => by
    rw [HP.out] at e
    have h1 := HLO.out ad h
    rcases e.2 with q | q <;> omega
  clear hown hby hbel hlo hc7 HB7 HD7 HP HLO HZ
  go_wp2_with fail
  refine (crash_dk HD8.out (by decide) 5 (by decide)).mono ?_
  rintro e w9 ⟨rfl, hd, ho⟩
  have HB9 : Hid (Below w.heap.size w w9) := HB8.out.trans (ho.below HPB.out HB8.out.size)
  have HD9 : Hid (DiskAt P w9 g sh8 6) := hd.back1 HPN.out
  have HA9 : Hid (Bytes w9 ro 6 [49, 50, 51, 52, 53, 56]) := bytes_only HBA.out ho HPO.out
  have HZ9 : Hid (w8.heap.size ≤ w9.heap.size) := ho.size
  clear hd ho HD8 HBA HB8
  go_wp2_with fail
  have hc9 := read_at HD9.out sA (by decide) (by rw [sk8]; decide)
  rw [sr8] at hc9
  refine hc9.mono ?_
  rintro e w10 ⟨v2, rfl, hown, hbel⟩
  have HB10 : Hid (Below w.heap.size w w10) := HB9.out.trans (hbel.mono HB9.out.size)
  have HD10 : Hid (DiskAt P w10 g sh8 6) := HD9.out.grown hbel
  have HA10 : Hid (Bytes w10 ro 6 [49, 50, 51, 52, 53, 56]) := bytes_kept HA9.out hbel (Nat.le_refl _)
  have HZ10 : Hid (w8.heap.size ≤ w10.heap.size) := Nat.le_trans HZ9.out hbel.size
  clear hown hbel hc9 HB9 HD9 HA9 HZ9
  go_wp2_with fail
  refine (start_at HD10.out).mono ?_
  rintro e w11 ⟨rfl, hd, ho⟩
  have HB11 : Hid (Below w.heap.size w w11) := HB10.out.trans (ho.below HPB.out HB10.out.size)
  have HD11 : Hid (DiskAt P w11 g sh9 6) := hd
  have HA11 : Hid (Bytes w11 ro 6 [49, 50, 51, 52, 53, 56]) := bytes_only HA10.out ho HPO.out
  have HZ11 : Hid (w8.heap.size ≤ w11.heap.size) := Nat.le_trans HZ10.out ho.size
  clear hd ho HD10 HA10 HB10 HZ10
  go_wp2_with fail
  have hc11 := read_at HD11.out sA (by decide) (by rw [sk9']; decide)
  rw [sr9] at hc11
  refine hc11.mono ?_
  rintro e w12 ⟨v3, rfl, hown, hbel⟩
  obtain ⟨ao, ac, rfl, hby, -⟩ := own_bytes hown
  have HB12 : Hid (Below w.heap.size w w12) := HB11.out.trans (hbel.mono HB11.out.size)
  have HD12 : Hid (DiskAt P w12 g sh9 6) := HD11.out.grown hbel
  have HA12 : Hid (Bytes w12 ro 6 [49, 50, 51, 52, 53, 56]) := bytes_kept HA11.out hbel (Nat.le_refl _)
  have HZ12 : Hid (w8.heap.size ≤ w12.heap.size) := Nat.le_trans HZ11.out hbel.size
  have HE12 : Hid (Bytes w12 ao 5 [49, 50, 51, 52, 53]) := hby
  clear hown hbel hc11 HB11 HD11 HA11 HZ11 hby
  go_wp2_with fail
  have hc12 := read_at HD12.out sB (by decide) (by rw [sk9']; decide)
  rw [sr9b] at hc12
  refine hc12.mono ?_
  rintro e w13 ⟨v4, rfl, hown, hbel⟩
  obtain ⟨bo, bc, rfl, hby, -⟩ := own_bytes hown
  have HB13 : Hid (Below w.heap.size w w13) := HB12.out.trans (hbel.mono HB12.out.size)
  have HD13 : Hid (DiskAt P w13 g sh9 6) := HD12.out.grown hbel
  have HZ13 : Hid (w8.heap.size ≤ w13.heap.size) := Nat.le_trans HZ12.out hbel.size
  have t1 := str_bytes rc (bytes_kept HA12.out hbel (Nat.le_refl _))
  have t2 := str_bytes ac (bytes_kept HE12.out hbel (Nat.le_refl _))
  have t3 := str_bytes bc hby
  clear hown hbel hc12 HB12 HD12 HA12 HZ12 hby HE12
  simp only [List.length_cons, List.length_nil, Nat.reduceAdd] at t1 t2 t3 ⊢
  go_wp2_with fail
  have hby13 : Bytes (w13.alloc (.cells #[.int .u8 49, .int .u8 50, .int .u8 51, .int .u8 52] 5 (4, 5))) (some ⟨w13.heap.size, 0, none⟩) 4 [49, 50, 51, 52] := const_bytes w13 [49, 50, 51, 52] (4, 5)
  have hc13 := append_at (HD13.out.now.grown (bel_alloc w13 (.cells #[.int .u8 49, .int .u8 50, .int .u8 51, .int .u8 52] 5 (4, 5)))) (by decide) sA (by decide) (some ⟨w13.heap.size, 0, none⟩) 4 4 [49, 50, 51, 52] hby13 (fun _ ad h => by cases h; exact fun e => absurd e.2 (Nat.lt_irrefl _)) (by decide) (.inr (by rw [sk9]; decide))
  rw [sf9] at hc13
  refine hc13.mono ?_
  rintro e w14 ⟨rfl, hd, ho⟩
  have HB14 : Hid (Below w.heap.size w w14) := (HB13.out.alloc HB13.out.size _).trans (ho.thin.below HPB.out (Nat.le_trans HB13.out.size (bel_alloc _ _).size))
  have HD14 : Hid (DiskAt P w14 g (sh9.append sA [49, 50, 51, 52]).2 7) := hd.back (bel_alloc _ _).size (fun k e => HPN.out k (Nat.le_trans HZ13.out e))
  clear hd ho hc13 hby13 HB13 HD13 t1 t2 t3
  go_wp2_with fail
  have hc14 := used_at HD14.out
  rw [su9] at hc14
  refine hc14.mono ?_
  rintro e w15 ⟨rfl, rfl⟩
  clear hc14
  go_wp2_with fail
  have hc15 := up_at HD14.out
  rw [sd9] at hc15
  refine hc15.mono ?_
  rintro e w16 ⟨rfl, rfl⟩
  go_wp2_with fail
  go_ret
  exact ⟨rfl, HB14.out⟩
end Go.Proofs.Ytomeghngjiaofaa
