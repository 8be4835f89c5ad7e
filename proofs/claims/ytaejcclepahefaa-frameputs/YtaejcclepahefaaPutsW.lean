/-
  The statement FramePuts, walked.
-/
import Derived.Test.YtaejcclepahefaaRefP
namespace Go.Proofs.Ytaejcclepahefaa
open Go.RowKit
set_option maxRecDepth 100000 in
set_option maxHeartbeats 4000000 in
theorem puts_walk (a b : SV) (w : World) (h1 : Bytes w a.ao a.n a.bs) (h2 : Bytes w b.ao b.n b.bs) (f1 : a.fine) (f2 : b.fine) :
    Calls Try.prog 11 #[.slice a.ao a.n a.c, .slice b.ao b.n b.c] w fun e w' => e = .returned (.bool true) ∧ Below w.heap.size w w' := by
  obtain ⟨ao, an, ac, xs⟩ := a
  obtain ⟨bo, bn, bc, bs⟩ := b
  simp only at h1 h2 ⊢
  have g1 : an ≤ ac := f1.2.1
  have g2 : bn ≤ bc := f2.2.1
  have g3 : ac ≤ 9223372036854775807 := f1.2.2
  have g4 : bc ≤ 9223372036854775807 := f2.2.2
  obtain ⟨m, hm⟩ : ∃ m, min an 3000 = m := ⟨_, rfl⟩
  obtain ⟨p, hp⟩ : ∃ p, min bn 3000 = p := ⟨_, rfl⟩
  have hmin : min (an : Int) 3000 = (m : Int) := by omega
  have hmin2 : min (bn : Int) 3000 = (p : Int) := by omega
  have k1 : (0 : Int) ≤ (m : Int) := by omega
  have k2 : (m : Int) ≤ (ac : Int) := by omega
  have k3 : (0 : Int) ≤ (p : Int) := by omega
  have k4 : (p : Int) ≤ (bc : Int) := by omega
  obtain ⟨x, HX⟩ : ∃ x, Hid (xs.take m = x) := ⟨_, rfl⟩
  obtain ⟨y, HY⟩ : ∃ y, Hid (bs.take p = y) := ⟨_, rfl⟩
  have HA : Hid (∀ W, Below w.heap.size w W → Bytes W ao m x) := fun W hW => by rw [← HX.out]; exact bytes_take (bytes_kept h1 hW (Nat.le_refl _)) m (by omega)
  have HB : Hid (∀ W, Below w.heap.size w W → Bytes W bo p y) := fun W hW => by rw [← HY.out]; exact bytes_take (bytes_kept h2 hW (Nat.le_refl _)) p (by omega)
  have FA : Hid (ao = none → ac = 0) := f1.1
  have FB : Hid (bo = none → bc = 0) := f2.1
  have HXL : Hid (x.length = m) := (HA.out w (Below.refl _ _)).1
  have HYL : Hid (y.length = p) := (HB.out w (Below.refl _ _)).1
  have hm1 : m ≤ 3000 := by omega
  have hp1 : p ≤ 3000 := by omega
  clear h1 h2 f1 f2 HX HY hm hp
  go_enter Try.func11, Try.ntmps11
  go_wp2_with fail
  refine (shown_any w).mono ?_
  rintro e w1 ⟨rfl, hb1⟩
  have HB1 : Hid (Below w.heap.size w w1) := hb1
  have hA1 := bytes_kept (HA.out w1 hb1) (bel_alloc w1 (.cells #[] 5)) (Nat.le_refl _)
  have HA1 : Hid (Bytes (w1.alloc (.cells #[] 5)) ao m x) := hA1
  have HO1 : Hid ((w1.alloc (.cells #[] 5)).ownsRow w1.heap.size 5 1 (.slice (some ⟨w1.heap.size, 0, none⟩) 0 0) 0 (cellsOf [])) := own_empty w1
  clear hb1 hA1
  go_wp2_with (at_builtin; refine wpList_append_copy _ rfl (.tmp 24) (.tmp 25) rfl w1.heap.size _ rfl HO1.out (by simp) ao m ac x rfl HA1.out FA.out (by omega) ?_)
  intro xo xc w2 hx2 hxc hxc9 hx0 hb2
  have HB2 : Hid (Below w.heap.size w w2) := HB1.out.trans (((bel_alloc w1 _).trans hb2).mono HB1.out.size)
  have HX2 : Hid (Bytes w2 xo m x) := hx2
  have FX : Hid (SV.fine ⟨xo, m, xc, x⟩) := ⟨hx0, hxc, hxc9⟩
  have HA2 : Hid (Bytes (w2.alloc (.cells #[] 5)) bo p y) := bytes_kept (HB.out w2 HB2.out) (bel_alloc w2 (.cells #[] 5)) (Nat.le_refl _)
  have HO2 : Hid ((w2.alloc (.cells #[] 5)).ownsRow w2.heap.size 5 1 (.slice (some ⟨w2.heap.size, 0, none⟩) 0 0) 0 (cellsOf [])) := own_empty w2
  clear hx2 hxc hxc9 hx0 hb2 HO1 HA1 HB1
  go_wp2_with (at_builtin; refine wpList_append_copy _ rfl (.tmp 27) (.tmp 28) rfl w2.heap.size _ rfl HO2.out (by simp) bo p bc y rfl HA2.out FB.out (by omega) ?_)
  intro yo yc w3 hy3 hyc hyc9 hy0 hb3
  have hb23 := (bel_alloc w2 (.cells #[] 5)).trans hb3
  have HB3 : Hid (Below w.heap.size w w3) := HB2.out.trans (hb23.mono HB2.out.size)
  have HX3 : Hid (Bytes w3 xo m x) := bytes_kept HX2.out hb23 (Nat.le_refl _)
  have HY3 : Hid (Bytes w3 yo p y) := hy3
  have FY : Hid (SV.fine ⟨yo, p, yc, y⟩) := ⟨hy0, hyc, hyc9⟩
  have HP := put_any ⟨xo, m, xc, x⟩ ⟨yo, p, yc, y⟩ w3 HX3.out HY3.out FX.out FY.out (by show p ≤ 65536; omega) (by show m ≤ 140737488250000; omega)
  simp only at HP
  obtain ⟨K, hK⟩ : ∃ K, m + (8 + p) = K := ⟨_, rfl⟩
  rw [hK] at HP
  have HPP : Hid _ := HP
  clear hy3 hyc hyc9 hy0 hb3 hb23 HO2 HA2 HB2 HX2 HP FX FY
  go_wp2_with fail
  refine Calls.mono HPP.out ?_
  rintro e w4 ⟨v, rfl, hown, hb4⟩
  obtain ⟨g, cg, rfl, hg1, hg2, hg3, hg4⟩ := own_shape hown (by omega)
  have HB4 : Hid (Below w.heap.size w w4) := HB3.out.trans (hb4.mono HB3.out.size)
  have hcv1 := str_bS ac (HA.out _ HB4.out)
  have hcv2 := str_bS bc (HB.out _ HB4.out)
  have HRP : Hid _ := refPut_any x y w4 (by rw [HYL.out]; omega) (by rw [HXL.out]; omega)
  have HOW : Hid (w4.ownsRow w3.heap.size 5 1 (.slice (some ⟨g, 0, none⟩) K cg) K (cellsOf (x ++ frameB y))) := hown
  have HB34 : Hid (Below w3.heap.size w3 w4) := hb4
  clear hown hb4 HPP
  go_wp2_with fail
  refine Calls.mono HRP.out ?_
  rintro e w5 ⟨rfl, hb5⟩
  have HB5 : Hid (Below w3.heap.size w3 w5) := HB34.out.trans (hb5.mono HB34.out.size)
  have HOW5 : Hid (w5.ownsRow w3.heap.size 5 1 (.slice (some ⟨g, 0, none⟩) K cg) K (cellsOf (x ++ frameB y))) := own_below HOW.out hb5 (Nat.le_refl _)
  have hcv3 := str_bS cg (own_row_bytes HOW5.out)
  clear hb5 hcv1 hcv2 HRP HOW HB34 HB4
  go_wp2_with fail
  clear hcv3
  go_loopw [12] (fun i wr => ∃ (k : Nat) (zs : List Value), k ≤ K ∧ i = .int .i64 k ∧ wr.ownsRow w3.heap.size 5 1 (.slice (some ⟨g, 0, none⟩) K cg) K zs ∧ Below w3.heap.size w3 wr) (fun i _ => K - (intOf i).toNat)
  case atStart => exact ⟨0, _, by omega, rfl, HOW5.out, HB5.out⟩
  case round =>
    clear HOW5 HB5
    obtain ⟨k, zs, hk, rfl, hxr, hbr⟩ := hrel
    by_cases hlt : k < K
    · obtain ⟨u0, hu0⟩ : ∃ u0, wr.cell? ⟨g, k, none⟩ = some u0 := by
        rw [hxr.cellAt k (by omega)]
        have hxl := hxr.1
        exact ⟨_, List.getElem?_eq_getElem (by omega)⟩
      have hfz := hxr.frozenAt k
      have HST : Hid ((wr.setCell ⟨g, k, none⟩ (.int .u8 63)).ownsRow w3.heap.size 5 1 (.slice (some ⟨g, 0, none⟩) K cg) K _) := (hxr.stored k (.int .u8 63)).1
      have HBK : Hid (Below w3.heap.size w3 (wr.setCell ⟨g, k, none⟩ (.int .u8 63))) := hbr.setCell hg1 _
      clear hxr hbr
      go_wp2
      go_roundw
      case rel => exact ⟨k + 1, _, by omega, by go_num, HST.out, HBK.out⟩
      case measure => simp [intOf]; omega
    · have HBF : Hid (Below w.heap.size w wr) := HB3.out.trans (hbr.mono HB3.out.size)
      have c1 := str_bS xc (bytes_kept HX3.out hbr (Nat.le_refl _))
      have c2 := str_bS yc (bytes_kept HY3.out hbr (Nat.le_refl _))
      have c3 := str_bS ac (HA.out _ HBF.out)
      have c4 := str_bS bc (HB.out _ HBF.out)
      clear hxr hbr
      go_wp2_with fail
      go_ret
      exact ⟨rfl, HBF.out⟩
end Go.Proofs.Ytaejcclepahefaa
