/-
  DiskRenames, its walk.
-/
import Derived.Test.YtomeghngjiaofaaRenM
import Derived.Deep.CutBlock
import Derived.Deep.DeepCutAuto
namespace Go.Proofs.Ytomeghngjiaofaa
open Go.RowKit
theorem low_of {w : World} {ao : Option Addr} {n : Nat} {bs : List UInt8} (h : Bytes w ao n bs) : 0 < n → ∀ ad, ao = some ad → ad.block < w.heap.size := by
  intro hn ad e
  obtain ⟨y, hy, hcl⟩ := h.2 0 _ (List.getElem?_eq_getElem (by rw [h.1]; exact hn))
  have h5 := World.block_lt_of_cell? w _ hcl
  have hbk : (y.add 0).block = y.block := by unfold Addr.add; split <;> rfl
  rw [hbk] at h5
  rw [hy] at e
  cases e
  exact h5
set_option maxRecDepth 100000 in
set_option maxHeartbeats 1000000 in
theorem renames_walk (so : Option Addr) (sn sc : Nat) (S : List UInt8) (tao : Option Addr) (tn tc : Nat) (T : List UInt8) (oo : Option Addr) (on oc : Nat) (Ob : List UInt8) (keep : Int) (w : World)
    (hS : Bytes w so sn S) (hT : Bytes w tao tn T) (hO : Bytes w oo on Ob) (htc : tn ≤ tc) (hsum : sn + tn + on ≤ 1048576) (hk : -9223372036854775808 ≤ keep ∧ keep ≤ 9223372036854775807) :
    Calls Try.prog 9 #[.slice so sn sc, .slice tao tn tc, .slice oo on oc, .int .i64 keep] w fun e w' => e = .returned (.bool true) ∧ Below w.heap.size w w' := by
  have HBS : Hid (Bytes w so sn S) := hS
  have HBT : Hid (Bytes w tao tn T) := hT
  have HBO : Hid (Bytes w oo on Ob) := hO
  have HOS : Hid (0 < sn → ∀ ad, so = some ad → ad.block < w.heap.size) := low_of hS
  have HOT : Hid (0 < tn → ∀ ad, tao = some ad → ad.block < w.heap.size) := low_of hT
  have HOO : Hid (0 < on → ∀ ad, oo = some ad → ad.block < w.heap.size) := low_of hO
  have HLS : Hid (S.length = sn) := hS.1
  have HLT : Hid (T.length = tn) := hT.1
  have HLO : Hid (Ob.length = on) := hO.1
  have HSUM : Hid (sn + tn + on ≤ 1048576) := hsum
  have HKB : Hid (-9223372036854775808 ≤ keep ∧ keep ≤ 9223372036854775807) := hk
  have HTC : Hid (tn ≤ tc) := htc
  clear hS hT hO htc hsum hk
  go_enter Try.func9, Try.ntmps9
  go_wp2_with fail
  refine (shown_any w).mono ?_
  rintro e w1 ⟨rfl, hb1⟩
  have HB1 : Hid (Below w.heap.size w w1) := hb1
  clear hb1
  go_wp2_with fail
  refine (new_at 1099511627776 big w1 (by rfl) (by decide)).mono ?_
  rintro e w2 ⟨g, rfl, hBg, hd2, hb2⟩
  have HB2 : Hid (Below w1.heap.size w1 w2) := hb2
  have HD2 : Hid (DiskAt (fun k => w1.heap.size ≤ k) w2 g (Dk.new big) 0) := hd2
  have HBW2 : Hid (Below w.heap.size w w2) := HB1.out.trans (HB2.out.mono HB1.out.size)
  clear hd2 hb2 hBg
  go_wp2_with fail
  have hc2 := create_at HD2.out (by decide) sX (by decide)
  rw [rn1] at hc2
  refine hc2.mono ?_
  rintro e w3 ⟨rfl, hd, ho⟩
  have HB3 : Hid (Below w1.heap.size w1 w3) := HB2.out.trans (ho.below (fun _ e => e) HB2.out.size)
  have HD3 : Hid (DiskAt (fun k => w1.heap.size ≤ k) w3 g r1 1) := hd.back1 (fun _ e => Nat.le_trans HB2.out.size e)
  have HBW3 : Hid (Below w.heap.size w w3) := HB1.out.trans (HB3.out.mono HB1.out.size)
  clear hd ho hc2 HB2 HD2 HBW2
  go_wp2_with fail
  have hc3 := append_at HD3.out (by decide) sX (by decide) so sn sc S (bytes_kept HBS.out HBW3.out (Nat.le_refl _)) (fun hp ad h e => by have h1 := HOS.out hp ad h; have h2 := HB1.out.size; exact absurd (Nat.le_trans h2 e) (by omega)) (by have := HSUM.out; omega) (.inr (by show usedL r1.L + sn ≤ _; simp only [r1, usedL, List.map_cons, List.map_nil, List.length_nil, List.sum_cons, List.sum_nil]; have := HSUM.out; have := HLS.out; have := HLT.out; have := HLO.out; omega))
  rw [rn2 S (by rw [HLS.out]; have := HSUM.out; omega)] at hc3
  refine hc3.mono ?_
  rintro e w4 ⟨rfl, hd, ho⟩
  have HB4 : Hid (Below w1.heap.size w1 w4) := HB3.out.trans (ho.below (fun _ e => e) HB3.out.size)
  have HD4 : Hid (DiskAt (fun k => w1.heap.size ≤ k) w4 g (r2 S) 2) := hd.back1 (fun _ e => Nat.le_trans HB3.out.size e)
  have HBW4 : Hid (Below w.heap.size w w4) := HB1.out.trans (HB4.out.mono HB1.out.size)
  clear hd ho hc3 HB3 HD3 HBW3
  go_wp2_with fail
  have hc4 := sync_at HD4.out (by decide) sX (by decide)
  rw [rn3] at hc4
  refine hc4.mono ?_
  rintro e w5 ⟨rfl, hd, ho⟩
  have HB5 : Hid (Below w1.heap.size w1 w5) := HB4.out.trans (ho.below (fun _ e => e) HB4.out.size)
  have HD5 : Hid (DiskAt (fun k => w1.heap.size ≤ k) w5 g (r3 S) 3) := hd.back1 (fun _ e => Nat.le_trans HB4.out.size e)
  have HBW5 : Hid (Below w.heap.size w w5) := HB1.out.trans (HB5.out.mono HB1.out.size)
  clear hd ho hc4 HB4 HD4 HBW4
  go_wp2_with fail
  have hc5 := create_at HD5.out (by decide) sY (by decide)
  rw [rn4] at hc5
  refine hc5.mono ?_
  rintro e w6 ⟨rfl, hd, ho⟩
  have HB6 : Hid (Below w1.heap.size w1 w6) := HB5.out.trans (ho.below (fun _ e => e) HB5.out.size)
  have HD6 : Hid (DiskAt (fun k => w1.heap.size ≤ k) w6 g (r4 S) 4) := hd.back1 (fun _ e => Nat.le_trans HB5.out.size e)
  have HBW6 : Hid (Below w.heap.size w w6) := HB1.out.trans (HB6.out.mono HB1.out.size)
  clear hd ho hc5 HB5 HD5 HBW5
  go_wp2_with fail
  have hc6 := append_at HD6.out (by decide) sY (by decide) oo on oc Ob (bytes_kept HBO.out HBW6.out (Nat.le_refl _)) (fun hp ad h e => by have h1 := HOO.out hp ad h; have h2 := HB1.out.size; exact absurd (Nat.le_trans h2 e) (by omega)) (by have := HSUM.out; omega) (.inr (by show usedL (r4 S).L + on ≤ _; simp only [r4, usedL, List.map_cons, List.map_nil, List.length_nil, List.sum_cons, List.sum_nil]; have := HSUM.out; have := HLS.out; have := HLT.out; have := HLO.out; omega))
  rw [rn5 S Ob (by rw [HLS.out, HLO.out]; have := HSUM.out; omega)] at hc6
  refine hc6.mono ?_
  rintro e w7 ⟨rfl, hd, ho⟩
  have HB7 : Hid (Below w1.heap.size w1 w7) := HB6.out.trans (ho.below (fun _ e => e) HB6.out.size)
  have HD7 : Hid (DiskAt (fun k => w1.heap.size ≤ k) w7 g (r5 S Ob) 5) := hd.back1 (fun _ e => Nat.le_trans HB6.out.size e)
  have HBW7 : Hid (Below w.heap.size w w7) := HB1.out.trans (HB7.out.mono HB1.out.size)
  clear hd ho hc6 HB6 HD6 HBW6
  go_wp2_with fail
  have hc7 := append_at HD7.out (by decide) sX (by decide) tao tn tc T (bytes_kept HBT.out HBW7.out (Nat.le_refl _)) (fun hp ad h e => by have h1 := HOT.out hp ad h; have h2 := HB1.out.size; exact absurd (Nat.le_trans h2 e) (by omega)) (by have := HSUM.out; omega) (.inr (by show usedL (r5 S Ob).L + tn ≤ _; simp only [r5, usedL, List.map_cons, List.map_nil, List.sum_cons, List.sum_nil]; have := HSUM.out; have := HLS.out; have := HLT.out; have := HLO.out; omega))
  rw [rn6 S Ob T (by rw [HLS.out, HLT.out, HLO.out]; have := HSUM.out; omega)] at hc7
  refine hc7.mono ?_
  rintro e w8 ⟨rfl, hd, ho⟩
  have HB8 : Hid (Below w1.heap.size w1 w8) := HB7.out.trans (ho.below (fun _ e => e) HB7.out.size)
  have HD8 : Hid (DiskAt (fun k => w1.heap.size ≤ k) w8 g (r6 S Ob T) 6) := hd.back1 (fun _ e => Nat.le_trans HB7.out.size e)
  have HBW8 : Hid (Below w.heap.size w w8) := HB1.out.trans (HB8.out.mono HB1.out.size)
  clear hd ho hc7 HB7 HD7 HBW7
  go_wp2_with fail
  have hc8 := rename_at HD8.out (by decide) sX sY (by decide) (by decide)
  rw [rn7] at hc8
  refine hc8.mono ?_
  rintro e w9 ⟨rfl, hd, ho⟩
  have HB9 : Hid (Below w1.heap.size w1 w9) := HB8.out.trans (ho.below (fun _ e => e) HB8.out.size)
  have HD9 : Hid (DiskAt (fun k => w1.heap.size ≤ k) w9 g (r7 S T) 7) := hd.back1 (fun _ e => Nat.le_trans HB8.out.size e)
  have HBW9 : Hid (Below w.heap.size w w9) := HB1.out.trans (HB9.out.mono HB1.out.size)
  clear hd ho hc8 HB8 HD8 HBW8
  go_wp2_with fail
  have hr9 := read_at HD9.out sX (by decide) (by rw [rn10, HLS.out, HLT.out]; have := HSUM.out; omega)
  rw [rn8] at hr9
  refine hr9.mono ?_
  rintro e w10 ⟨v9, rfl, hown, hb⟩
  have HB10 : Hid (Below w1.heap.size w1 w10) := HB9.out.trans (hb.mono HB9.out.size)
  have HD10 : Hid (DiskAt (fun k => w1.heap.size ≤ k) w10 g (r7 S T) 7) := HD9.out.grown hb
  have HBW10 : Hid (Below w.heap.size w w10) := HB1.out.trans (HB10.out.mono HB1.out.size)
  obtain ⟨xo, xc, rfl, -, -, -⟩ := row_facts hown
  clear hb hr9 HB9 HD9 HBW9 hown
  go_wp2_with fail
  have hr10 := read_at HD10.out sY (by decide) (by rw [rn10, HLS.out, HLT.out]; have := HSUM.out; omega)
  rw [rn9] at hr10
  refine hr10.mono ?_
  rintro e w11 ⟨v10, rfl, hown, hb⟩
  have HB11 : Hid (Below w1.heap.size w1 w11) := HB10.out.trans (hb.mono HB10.out.size)
  have HD11 : Hid (DiskAt (fun k => w1.heap.size ≤ k) w11 g (r7 S T) 7) := HD10.out.grown hb
  have HBW11 : Hid (Below w.heap.size w w11) := HB1.out.trans (HB11.out.mono HB1.out.size)
  obtain ⟨yn, HYN⟩ : ∃ n, Hid ((S ++ T).length = n) := ⟨_, rfl⟩
  rw [HYN.out] at hown
  obtain ⟨yo, yc, rfl, hby, -⟩ := own_bytes hown
  have HBY : Hid (Bytes w11 yo yn (S ++ T)) := hby
  clear hby
  clear hb hr10 HB10 HD10 HBW10 hown
  obtain ⟨ss, HSS⟩ : ∃ s, Hid (bS S = s) := ⟨_, rfl⟩
  obtain ⟨tt, HTT⟩ : ∃ s, Hid (bS T = s) := ⟨_, rfl⟩
  obtain ⟨st, HST⟩ : ∃ s, Hid (bS (S ++ T) = s) := ⟨_, rfl⟩
  have t1 := str_bS yc HBY.out
  have t2 := str_bS sc (bytes_kept HBS.out HBW11.out (Nat.le_refl _))
  have t3 := str_bS tc (bytes_kept HBT.out HBW11.out (Nat.le_refl _))
  rw [HST.out] at t1
  rw [HSS.out] at t2
  rw [HTT.out] at t3
  have t4 : ∀ W : World, (Op.stringOp .add ss tt).run Try.prog W = .ok (.string st) W := fun W => by
    rw [← HSS.out, ← HTT.out, ← HST.out, ← bS_app]
    exact run_string_add_sum W _ _ (by rw [bS_size, bS_size, HLS.out, HLT.out]; have := HSUM.out; omega)
  obtain ⟨u1, HU1⟩ : ∃ u1, Hid (sn + tn = u1) := ⟨_, rfl⟩
  have hw1 : wrap64 ((sn : Int) + (tn : Int)) = (u1 : Int) := by rw [← HU1.out]; exact waddn (by have := HSUM.out; omega)
  have hu := used_at HD11.out
  rw [rn10, HLS.out, HLT.out, HU1.out] at hu
  go_wp2_with fail
  refine hu.mono ?_
  rintro e wq ⟨rfl, hwq⟩
  rw [hwq]
  clear hwq hu t1 t2 t3 t4
  obtain ⟨kk, HKK⟩ : ∃ kk, Hid (keepI keep T.length = kk) := ⟨_, rfl⟩
  have hmin : max (0 : Int) (min keep (tn : Int)) = (kk : Int) := by rw [← HKK.out, HLT.out]; unfold keepI; omega
  have HKL : Hid (kk ≤ tn) := by rw [← HKK.out, ← HLT.out]; exact keepI_le _ _
  have HYB : Hid (DiskAt (fun k => w1.heap.size ≤ k) w11 g (r7 S T) 7) := HD11.out
  go_wp2_with fail
  have hc11 := crash_dk HYB.out (by decide) keep HKB.out
  rw [rn11] at hc11
  refine hc11.mono ?_
  rintro e w12 ⟨rfl, hd, ho⟩
  have HB12 : Hid (Below w1.heap.size w1 w12) := HB11.out.trans (ho.below (fun _ e => e) HB11.out.size)
  have HD12 : Hid (DiskAt (fun k => w1.heap.size ≤ k) w12 g (r8 S T keep) 7) := hd.back1 (fun _ e => Nat.le_trans HB11.out.size e)
  clear hd ho hc11 HB11 HD11 HYB HBW11 HBY HYN HST
  go_wp2_with fail
  refine (start_at HD12.out).mono ?_
  rintro e w13 ⟨rfl, hd, ho⟩
  have HB13 : Hid (Below w1.heap.size w1 w13) := HB12.out.trans (ho.below (fun _ e => e) HB12.out.size)
  have HD13 : Hid (DiskAt (fun k => w1.heap.size ≤ k) w13 g (r9 S T keep) 7) := hd
  have HBW13 : Hid (Below w.heap.size w w13) := HB1.out.trans (HB13.out.mono HB1.out.size)
  clear hd ho HB12 HD12
  go_wp2_with fail
  have hr13 := read_at HD13.out sY (by decide) (Nat.le_trans (rn14 S T keep) (by rw [HLS.out, HLT.out]; have := HSUM.out; omega))
  rw [rn12] at hr13
  refine hr13.mono ?_
  rintro e w14 ⟨v13, rfl, hown, hb⟩
  have HB14 : Hid (Below w1.heap.size w1 w14) := HB13.out.trans (hb.mono HB13.out.size)
  have HD14 : Hid (DiskAt (fun k => w1.heap.size ≤ k) w14 g (r9 S T keep) 7) := HD13.out.grown hb
  have HBW14 : Hid (Below w.heap.size w w14) := HB1.out.trans (HB14.out.mono HB1.out.size)
  obtain ⟨zn, HZN⟩ : ∃ n, Hid ((S ++ T.take (keepI keep T.length)).length = n) := ⟨_, rfl⟩
  rw [HZN.out] at hown
  obtain ⟨zo, zc, rfl, hby, -⟩ := own_bytes hown
  have HBZ : Hid (Bytes w14 zo zn (S ++ T.take kk)) := by rw [← HKK.out]; exact hby
  clear hby
  clear hb hr13 HB13 HD13 HBW13 hown
  obtain ⟨tk, HTK⟩ : ∃ s, Hid (bS (T.take kk) = s) := ⟨_, rfl⟩
  obtain ⟨sk, HSK⟩ : ∃ s, Hid (bS (S ++ T.take kk) = s) := ⟨_, rfl⟩
  have t1 : ∀ q, (convert 28 9 (.slice zo zn zc)).run Try.prog (w14.drewN q) = .ok (.string sk) (w14.drewN q) := fun q => by rw [← HSK.out]; exact str_bS zc (bytes_drewN q HBZ.out)
  have t2 : ∀ q, (convert 28 9 (.slice so sn sc)).run Try.prog (w14.drewN q) = .ok (.string ss) (w14.drewN q) := fun q => by rw [← HSS.out]; exact str_bS sc (bytes_drewN q (bytes_kept HBS.out HBW14.out (Nat.le_refl _)))
  have t3 : ∀ q, (convert 28 9 (.slice tao kk tc)).run Try.prog (w14.drewN q) = .ok (.string tk) (w14.drewN q) := fun q => by rw [← HTK.out]; exact str_bS tc (bytes_drewN q (bytes_take (bytes_kept HBT.out HBW14.out (Nat.le_refl _)) kk HKL.out))
  have t1' := t1 1
  have t2' := t2 1
  have t3' := t3 1
  have t4 : ∀ W : World, (Op.stringOp .add ss tk).run Try.prog W = .ok (.string sk) W := fun W => by
    rw [← HSS.out, ← HTK.out, ← HSK.out, ← bS_app]
    exact run_string_add_sum W _ _ (by rw [bS_size, bS_size, HLS.out, List.length_take, HLT.out]; have := HSUM.out; omega)
  have hkc : (kk : Int) ≤ (tc : Int) := by have h1 := HKL.out; have h2 := HTC.out; omega
  have hk0 : (0 : Int) ≤ (kk : Int) := Int.natCast_nonneg _
  have HLI : Hid (∀ q, Calls Try.prog 30 #[.pointer (some ⟨g, 0, none⟩)] (w14.drewN q) fun e w' => ∃ gl c, e = .returned (.slice (some ⟨gl, 0, none⟩) 1 c) ∧ Below w1.heap.size w1 w' ∧ ((convert 28 9 (.slice zo zn zc)).run Try.prog w' = .ok (.string sk) w' ∧ (convert 28 9 (.slice so sn sc)).run Try.prog w' = .ok (.string ss) w' ∧ (convert 28 9 (.slice tao kk tc)).run Try.prog w' = .ok (.string tk) w')) := fun q => by
    have h5 := list_at (HD14.out.keep (w' := w14.drewN q) (fun _ _ _ => by rw [heap_drewN])) (by decide)
    rw [rn13] at h5
    refine h5.mono ?_
    rintro e w' ⟨v, rfl, hrow, hb⟩
    obtain ⟨gl, lc, rfl, -⟩ := row_one hrow
    refine ⟨gl, lc, rfl, (bel_drewN HB14.out q).trans (hb.mono (bel_drewN HB14.out q).size), ?_, ?_, ?_⟩
    · rw [← HSK.out]; exact str_bS zc (bytes_kept (bytes_drewN q HBZ.out) hb (Nat.le_refl _))
    · rw [← HSS.out]; exact str_bS sc (bytes_kept (bytes_drewN q (bytes_kept HBS.out HBW14.out (Nat.le_refl _))) hb (Nat.le_refl _))
    · rw [← HTK.out]; exact str_bS tc (bytes_kept (bytes_drewN q (bytes_take (bytes_kept HBT.out HBW14.out (Nat.le_refl _)) kk HKL.out)) hb (Nat.le_refl _))
  clear t1 t2 t3
  have hS0 : (convert 28 9 (.slice zo zn zc)).run Try.prog w14.drew = .ok (.string sk) w14.drew ∧ (convert 28 9 (.slice so sn sc)).run Try.prog w14.drew = .ok (.string ss) w14.drew ∧ (convert 28 9 (.slice tao kk tc)).run Try.prog w14.drew = .ok (.string tk) w14.drew := ⟨t1', t2', t3'⟩
  clear t1' t2' t3'
  go_upto_region 15 with fail
  go_wp2_with fail
  go_region_held3 (fun w' => (convert 28 9 (.slice zo zn zc)).run Try.prog w' = .ok (.string sk) w' ∧ (convert 28 9 (.slice so sn sc)).run Try.prog w' = .ok (.string ss) w' ∧ (convert 28 9 (.slice tao kk tc)).run Try.prog w' = .ok (.string tk) w') (assumption) ((go_at_call 30; refine Calls.mono (HLI.out 1) ?_; rintro e w20 ⟨gl, lc, rfl, hb20, hS20⟩; have HB20 : Hid (Below w1.heap.size w1 w20) := hb20; clear hb20))
  clear hS0 hS20 t4 hkc hk0 hmin hw1
  go_wp2_with fail
  go_ret
  exact ⟨rfl, HB1.out.trans (HB20.out.mono HB1.out.size)⟩
end Go.Proofs.Ytomeghngjiaofaa
