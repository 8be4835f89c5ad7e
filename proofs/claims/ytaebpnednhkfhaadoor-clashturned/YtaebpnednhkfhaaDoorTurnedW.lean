/-
  The walk of marlstonelaw06.ClashTurned.
-/
import Derived.Test.YtaebpnednhkfhaaDoorPartQ
import Derived.Test.YtaebpnednhkfhaaDoorKeptLaw
import Derived.Test.YtaebpnednhkfhaaDoorDepthW
namespace Go.Proofs.YtaebpnednhkfhaaDoor
open Go.RowKit
theorem masks : ∀ (l k : Fin 9), k ≤ l → UInt8.ofNat (255 - 255 / 2 ^ (min l.val 8)) &&& UInt8.ofNat (255 - 255 / 2 ^ (min k.val 8)) = UInt8.ofNat (255 - 255 / 2 ^ (min k.val 8)) := by decide +kernel
theorem mask_less (c : UInt8) (l k : Nat) (h : k ≤ l) : maskB (maskB c l) k = maskB c k := by
  unfold maskB
  have e := masks ⟨min l 8, by omega⟩ ⟨min k 8, by omega⟩ (by show min k 8 ≤ min l 8; omega)
  simp only [Nat.min_assoc, Nat.min_self] at e
  rw [UInt8.and_assoc, e]
theorem kept_less {d e : List UInt8} (hd : d.length = 32) (he : e.length = 32) (l k : Nat) (h : k ≤ l) (heq : keptB d l 32 = keptB e l 32) : keptB d k 32 = keptB e k 32 := by
  have h1 : (keptB d k 32).length = 32 := by rw [keptB_length, hd]
  have h2 : (keptB e k 32).length = 32 := by rw [keptB_length, he]
  apply List.ext_getElem (by rw [h1, h2])
  intro j hj hj2
  have hj' : j < 32 := by omega
  have q := congrArg (fun x : List UInt8 => maskB (x.getD j 0) (k - 8 * j)) heq
  rw [keptB_at d l j (by omega) 32 hj', keptB_at e l j (by omega) 32 hj', mask_less _ _ _ (by omega), mask_less _ _ _ (by omega), ← keptB_at d k j (by omega) 32 hj', ← keptB_at e k j (by omega) 32 hj'] at q
  rw [List.getD_eq_getElem?_getD, List.getElem?_eq_getElem hj, List.getD_eq_getElem?_getD, List.getElem?_eq_getElem hj2] at q
  exact q
theorem keptZ_less (z y : Int) (xs ys : List UInt8) (h : y ≤ z) (he : keptZ z xs = keptZ z ys) : keptZ y xs = keptZ y ys := kept_less (shaB_length _) (shaB_length _) _ _ (by omega) he
theorem kept_zero {d e : List UInt8} (hd : d.length = 32) (he : e.length = 32) : keptB d 0 32 = keptB e 0 32 := by
  have h1 : (keptB d 0 32).length = 32 := by rw [keptB_length, hd]
  have h2 : (keptB e 0 32).length = 32 := by rw [keptB_length, he]
  apply List.ext_getElem (by rw [h1, h2])
  intro j hj hj2
  have e1 := keptB_at d 0 j (by omega) 32 (by omega)
  have e2 := keptB_at e 0 j (by omega) 32 (by omega)
  rw [List.getD_eq_getElem?_getD, List.getElem?_eq_getElem hj, Nat.zero_sub] at e1
  rw [List.getD_eq_getElem?_getD, List.getElem?_eq_getElem hj2, Nat.zero_sub] at e2
  have m0 : ∀ c : UInt8, maskB c 0 = 0 := fun c => by unfold maskB; simp
  rw [m0] at e1 e2
  exact Eq.trans e1 e2.symm
theorem zero_num : (min (max (0 : Int) 0) 256).toNat = 0 := by decide
theorem keptZ_none (xs ys : List UInt8) : keptZ 0 xs = keptZ 0 ys := by
  have e : ∀ xs, keptZ 0 xs = keptB (shaB xs) 0 32 := fun xs => congrArg (fun l => keptB (shaB xs) l 32) zero_num
  exact (e xs).trans ((kept_zero (shaB_length xs) (shaB_length ys)).trans (e ys).symm)
theorem oft_comm (z : Int) (xs ys : List UInt8) : oft z ys xs = oft z xs ys := by
  have h1 : decide (ys ≠ xs) = decide (xs ≠ ys) := decide_eq_decide.2 ⟨fun h e => h e.symm, fun h e => h e.symm⟩
  have h2 : ∀ p q : List UInt8, (p == q) = (q == p) := fun p q => by rw [Bool.eq_iff_iff, beq_iff_eq, beq_iff_eq]; exact ⟨Eq.symm, Eq.symm⟩
  unfold oft
  rw [h1, h2 (keptZ z ys)]
theorem oft_same (z : Int) (xs : List UInt8) : oft z xs xs = false := by unfold oft; simp
theorem oft_none (xs ys : List UInt8) : oft 0 xs ys = decide (xs ≠ ys) := by unfold oft; rw [keptZ_none xs ys, beq_self_eq_true, Bool.and_true]
theorem oft_less (z y : Int) (xs ys : List UInt8) (h : y ≤ z) : oft z xs ys = true → oft y xs ys = true := by
  unfold oft
  rw [Bool.and_eq_true, Bool.and_eq_true, beq_iff_eq, beq_iff_eq]
  exact fun h1 => ⟨h1.1, keptZ_less z y xs ys h h1.2⟩
set_option maxRecDepth 100000 in
set_option maxHeartbeats 20000000 in
theorem turned_walk (z : Int) (aa : Option Addr) (an ac : Nat) (ab : List UInt8) (ba : Option Addr) (bn bc : Nat) (bb : List UInt8) (w : World) (hK : WW w 0 ks) (h0 : 0 < w.heap.size)
    (hA : Bytes w aa an ab) (ha0 : aa = none → ac = 0) (hac : an ≤ ac) (ham : ac ≤ 9223372036854775807) (hB : Bytes w ba bn bb) (hb0 : ba = none → bc = 0) (hbc : bn ≤ bc) (hbm : bc ≤ 9223372036854775807) :
    Calls Tryd.prog 18 #[.int .i64 z, .slice aa an ac, .slice ba bn bc] w fun e w' => e = .returned (.bool true) ∧ Below w.heap.size w w' := by
  have HKW : Hid (∀ W, Below w.heap.size w W → WW W 0 ks ∧ 0 < W.heap.size) := fun W hW => ⟨hK.below hW h0, Nat.lt_of_lt_of_le h0 hW.size⟩
  have HSH : Hid (∀ W, Below w.heap.size w W → Calls Tryd.prog 46 #[] W fun e w' => e = .returned (.bool true) ∧ Below W.heap.size W w') := fun W hW => shown6_any W (hK.below hW h0) (Nat.lt_of_lt_of_le h0 hW.size)
  obtain ⟨r1, hbit, hr1⟩ : ∃ r : Nat, bits .and .i64 z 65535 = (r : Int) ∧ r ≤ 65535 := ⟨(z % 65536).toNat, by rw [and65535]; omega, by omega⟩
  obtain ⟨y, HY⟩ : ∃ y : Nat, Hid (r1 % 257 = y) := ⟨_, rfl⟩
  have HYB : Hid (y ≤ 256) := by show _ ≤ _; have := HY.out; omega
  have hrem : (r1 : Int).tmod 257 = (y : Int) := by rw [Int.tmod_eq_emod_of_nonneg (by omega), ← HY.out]; rfl
  have hrem2 : (r1 : Int) % 257 = (y : Int) := by rw [← HY.out]; rfl
  obtain ⟨v, HVV⟩ : ∃ v : Nat, Hid (y / 2 = v) := ⟨_, rfl⟩
  have hquo : (y : Int).tdiv 2 = (v : Int) := by rw [Int.tdiv_eq_ediv_of_nonneg (by omega), ← HVV.out]; rfl
  have hquo2 : (y : Int) / 2 = (v : Int) := by rw [← HVV.out]; rfl
  obtain ⟨m, HM⟩ : ∃ m : Nat, Hid (min an 300 = m) := ⟨_, rfl⟩
  have hm : min (an : Int) 300 = (m : Int) := by have := HM.out; omega
  obtain ⟨k, HKD⟩ : ∃ m : Nat, Hid (min bn 300 = m) := ⟨_, rfl⟩
  have hk : min (bn : Int) 300 = (k : Int) := by have := HKD.out; omega
  have hmc : (m : Int) ≤ (ac : Int) := by have := HM.out; omega
  have hkc : (k : Int) ≤ (bc : Int) := by have := HKD.out; omega
  obtain ⟨A, HAD⟩ : ∃ P, Hid (ab.take m = P) := ⟨_, rfl⟩
  obtain ⟨B, HBD⟩ : ∃ P, Hid (bb.take k = P) := ⟨_, rfl⟩
  have HTA : Hid (∀ W, Below w.heap.size w W → TxV W aa m ac A) := fun W hW => by rw [← HAD.out]; exact ⟨bytes_take (bytes_kept hA hW (Nat.le_refl _)) m (by have := HM.out; omega), ha0, by have := HM.out; omega, ham, by have := HM.out; omega⟩
  have HTB : Hid (∀ W, Below w.heap.size w W → TxV W ba k bc B) := fun W hW => by rw [← HBD.out]; exact ⟨bytes_take (bytes_kept hB hW (Nat.le_refl _)) k (by have := HKD.out; omega), hb0, by have := HKD.out; omega, hbm, by have := HKD.out; omega⟩
  obtain ⟨t1, HT1⟩ : ∃ b, Hid (oft y A B = b) := ⟨_, rfl⟩
  obtain ⟨t2, HT2⟩ : ∃ b, Hid (oft v A B = b) := ⟨_, rfl⟩
  have HT12 : Hid (t1 = true → t2 = true) := by
    show _ → _
    rw [← HT1.out, ← HT2.out]
    exact oft_less _ _ _ _ (by have := HVV.out; omega)
  have C1 : Hid (∀ W, Below w.heap.size w W → Calls Tryd.prog 50 #[.agg #[.int .i64 (y : Int)], .slice aa m ac, .slice ba k bc] W fun e w' => e = .returned (.bool t1) ∧ Below W.heap.size W w') := fun W hW => by
    have h := ofTexts_any y aa m ac A ba k bc B W (HTA.out W hW) (HTB.out W hW) (HKW.out W hW).1 (HKW.out W hW).2 (by have := HYB.out; omega)
    rw [HT1.out] at h; exact h
  have C2 : Hid (∀ W, Below w.heap.size w W → Calls Tryd.prog 50 #[.agg #[.int .i64 (v : Int)], .slice aa m ac, .slice ba k bc] W fun e w' => e = .returned (.bool t2) ∧ Below W.heap.size W w') := fun W hW => by
    have h := ofTexts_any v aa m ac A ba k bc B W (HTA.out W hW) (HTB.out W hW) (HKW.out W hW).1 (HKW.out W hW).2 (by have := HYB.out; have := HVV.out; omega)
    rw [HT2.out] at h; exact h
  have C3 : Hid (∀ W, Below w.heap.size w W → Calls Tryd.prog 50 #[.agg #[.int .i64 0], .slice aa m ac, .slice ba k bc] W fun e w' => e = .returned (.bool (decide (A ≠ B))) ∧ Below W.heap.size W w') := fun W hW => by
    have h := ofTexts_any 0 aa m ac A ba k bc B W (HTA.out W hW) (HTB.out W hW) (HKW.out W hW).1 (HKW.out W hW).2 z0
    rw [oft_none] at h; exact h
  have C4 : Hid (∀ W, Below w.heap.size w W → Calls Tryd.prog 50 #[.agg #[.int .i64 (y : Int)], .slice ba k bc, .slice aa m ac] W fun e w' => e = .returned (.bool t1) ∧ Below W.heap.size W w') := fun W hW => by
    have h := ofTexts_any y ba k bc B aa m ac A W (HTB.out W hW) (HTA.out W hW) (HKW.out W hW).1 (HKW.out W hW).2 (by have := HYB.out; omega)
    rw [oft_comm, HT1.out] at h; exact h
  have C5 : Hid (∀ W, Below w.heap.size w W → Calls Tryd.prog 50 #[.agg #[.int .i64 (y : Int)], .slice aa m ac, .slice aa m ac] W fun e w' => e = .returned (.bool false) ∧ Below W.heap.size W w') := fun W hW => by
    have h := ofTexts_any y aa m ac A aa m ac A W (HTA.out W hW) (HTA.out W hW) (HKW.out W hW).1 (HKW.out W hW).2 (by have := HYB.out; omega)
    rw [oft_same] at h; exact h
  obtain ⟨d, HDD⟩ : ∃ b, Hid (decide (A ≠ B) = b) := ⟨_, rfl⟩
  rw [HDD.out] at C3
  have HSA : Hid (∀ W, Below w.heap.size w W → (convert 36 9 (.slice aa m ac)).run Tryd.prog W = .ok (.string ⟨A.toArray⟩) W) := fun W hW => str_bytes ac (HTA.out W hW).1
  have HSB : Hid (∀ W, Below w.heap.size w W → (convert 36 9 (.slice ba k bc)).run Tryd.prog W = .ok (.string ⟨B.toArray⟩) W) := fun W hW => str_bytes bc (HTB.out W hW).1
  clear hK h0 hA ha0 hac ham hB hb0 hbc hbm hr1
  go_enter Tryd.func18, Tryd.ntmps18
  go_wp2_with fail
  refine (HSH.out _ (Below.refl _ _)).mono ?_
  rintro e w1 ⟨rfl, hb1⟩
  have HB1 : Hid (Below w.heap.size w w1) := hb1
  clear hb1
  go_wp2_with fail
  refine (C1.out _ HB1.out).mono ?_
  rintro e w2 ⟨rfl, hb2⟩
  have HB2 : Hid (Below w.heap.size w w2) := HB1.out.trans (hb2.mono HB1.out.size)
  clear hb2
  go_wp2_with fail
  refine (C2.out _ HB2.out).mono ?_
  rintro e w3 ⟨rfl, hb3⟩
  have HB3 : Hid (Below w.heap.size w w3) := HB2.out.trans (hb3.mono HB2.out.size)
  clear hb3
  go_wp2_with fail
  refine (C3.out _ HB3.out).mono ?_
  rintro e w4 ⟨rfl, hb4⟩
  have HB4 : Hid (Below w.heap.size w w4) := HB3.out.trans (hb4.mono HB3.out.size)
  clear hb4
  go_wp2_with fail
  refine (C4.out _ HB4.out).mono ?_
  rintro e w5 ⟨rfl, hb5⟩
  have HB5 : Hid (Below w.heap.size w w5) := HB4.out.trans (hb5.mono HB4.out.size)
  clear hb5
  have sa := HSA.out _ HB5.out
  have sb := HSB.out _ HB5.out
  have hne : (A == B) = !d := by
    rw [← HDD.out]
    by_cases h : A = B
    · simp [h]
    · simp [h]
  have HLAST : Hid (t1 = false ∨ (t1 = true ∧ t2 = true)) := by
    cases h : t1 with
    | false => exact .inl rfl
    | true => exact .inr ⟨rfl, HT12.out h⟩
  clear HT1 HT2 HT12 HDD
  rcases HLAST.out with rfl | ⟨rfl, rfl⟩ <;> cases d
  · skip
    go_wp2_with fail
    refine (C5.out _ HB5.out).mono ?_
    rintro e w6 ⟨rfl, hb6⟩
    have HB6 : Hid (Below w.heap.size w w6) := HB5.out.trans (hb6.mono HB5.out.size)
    clear hb6 sa sb hne
    go_wp2_with fail
    go_ret
    exact ⟨rfl, HB6.out⟩
  · skip
    go_wp2_with fail
    refine (C5.out _ HB5.out).mono ?_
    rintro e w6 ⟨rfl, hb6⟩
    have HB6 : Hid (Below w.heap.size w w6) := HB5.out.trans (hb6.mono HB5.out.size)
    clear hb6 sa sb hne
    go_wp2_with fail
    go_ret
    exact ⟨rfl, HB6.out⟩
  · skip
    go_wp2_with fail
    refine (C5.out _ HB5.out).mono ?_
    rintro e w6 ⟨rfl, hb6⟩
    have HB6 : Hid (Below w.heap.size w w6) := HB5.out.trans (hb6.mono HB5.out.size)
    clear hb6 sa sb hne
    go_wp2_with fail
    go_ret
    exact ⟨rfl, HB6.out⟩
  · skip
    go_wp2_with fail
    refine (C5.out _ HB5.out).mono ?_
    rintro e w6 ⟨rfl, hb6⟩
    have HB6 : Hid (Below w.heap.size w w6) := HB5.out.trans (hb6.mono HB5.out.size)
    clear hb6 sa sb hne
    go_wp2_with fail
    go_ret
    exact ⟨rfl, HB6.out⟩
end Go.Proofs.YtaebpnednhkfhaaDoor
