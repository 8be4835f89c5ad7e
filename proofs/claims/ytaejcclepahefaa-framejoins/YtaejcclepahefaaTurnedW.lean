/-
  The statement FrameTurned, walked.
-/
import Derived.Test.YtaejcclepahefaaLargeW
import Derived.Test.YtaejcclepahefaaReadsW
namespace Go.Proofs.Ytaejcclepahefaa
open Go.RowKit
theorem u8_xor (c t : UInt8) : bits .xor .u8 (c.toNat : Int) (t.toNat : Int) = ((c ^^^ t).toNat : Int) := by
  have hc := c.toNat_lt; have ht := t.toNat_lt
  show IntKind.u8.wrap ((BitVec.ofInt 8 (c.toNat : Int) ^^^ BitVec.ofInt 8 (t.toNat : Int)).toNat : Nat) = _
  have e1 : BitVec.ofInt 8 (c.toNat : Int) = c.toBitVec := by apply BitVec.eq_of_toNat_eq; rw [BitVec.toNat_ofInt]; simp; omega
  have e2 : BitVec.ofInt 8 (t.toNat : Int) = t.toBitVec := by apply BitVec.eq_of_toNat_eq; rw [BitVec.toNat_ofInt]; simp; omega
  rw [e1, e2]
  have e3 : (c.toBitVec ^^^ t.toBitVec).toNat = (c ^^^ t).toNat := by rw [← UInt8.toBitVec_xor]; rfl
  rw [e3]
  have := (c ^^^ t).toNat_lt
  rw [IntKind.wrap_u8]
  omega
theorem wsub2 {K d K2 : Nat} (h : K + d = K2) (hm : K2 ≤ 1000000) : wrap64 ((K2 : Int) - (K : Int)) = (d : Int) := by unfold wrap64; omega
theorem wadd2 {K j kk K2 : Nat} (h : K + j = kk) (h1 : kk ≤ K2) (hm : K2 ≤ 1000000) : wrap64 ((K : Int) + (j : Int)) = (kk : Int) := by unfold wrap64; omega
theorem wneg {a : Int} {r : Nat} (h : -(a + 1) = (r : Int)) (hr : r ≤ 9223372036854775807) : wrap64 (a + 1) = a + 1 ∧ wrap64 (-(a + 1)) = (r : Int) := by unfold wrap64; omega
theorem xor_ne (c t : UInt8) (h : t.toNat ≠ 0) : c ^^^ t ≠ c := by
  intro e
  have h2 : c ^^^ t = c ^^^ 0 := by rw [e]; simp
  have h3 : t = 0 := (UInt8.xor_right_inj c).1 h2
  rw [h3] at h; exact h rfl
theorem set_other (l : List UInt8) (j : Nat) (c : UInt8) (hj : j < l.length) (hne : c ≠ l[j]) : l.set j c ≠ l := by
  intro e
  have h := congrArg (fun z => z[j]?) e
  simp [hj] at h
  exact hne h
theorem set_two (a b : List UInt8) (k j : Nat) (c : UInt8) (hk : k = a.length + j) : (a ++ b).set k c = a ++ b.set j c := by
  rw [hk, List.set_append_right _ _ (by omega)]; congr 2; omega
theorem cells_set (l : List UInt8) (k : Nat) (c : UInt8) : (cellsOf l).set k (.int .u8 (c.toNat : Int)) = cellsOf (l.set k c) := by
  unfold cellsOf; rw [List.map_set]
set_option maxRecDepth 100000 in
set_option maxHeartbeats 4000000 in
theorem turned_walk (a b : SV) (at0 : Int) (t : UInt8) (w : World) (h1 : Bytes w a.ao a.n a.bs) (h2 : Bytes w b.ao b.n b.bs) (f1 : a.fine) (f2 : b.fine) (hat : -9223372036854775808 ≤ at0 ∧ at0 ≤ 9223372036854775807) :
    Calls Try.prog 14 #[.slice a.ao a.n a.c, .slice b.ao b.n b.c, .int .i64 at0, .int .u8 (t.toNat : Int)] w fun e w' => e = .returned (.bool true) ∧ Below w.heap.size w w' := by
  obtain ⟨ao, an, ac, xs⟩ := a
  obtain ⟨bo, bn, bc, bs⟩ := b
  simp only at h1 h2 ⊢
  have g1 : an ≤ ac := f1.2.1
  have g2 : bn ≤ bc := f2.2.1
  have g3 : ac ≤ 9223372036854775807 := f1.2.2
  have g4 : bc ≤ 9223372036854775807 := f2.2.2
  obtain ⟨m, hm⟩ : ∃ m, min an 3000 = m := ⟨_, rfl⟩
  obtain ⟨p, hp⟩ : ∃ p, min bn 3000 = p := ⟨_, rfl⟩
  have hmin : min (an : Int) 3000 = (m : Int) := by omega
  have hmin2 : min (bn : Int) 3000 = (p : Int) := by omega
  have k1 : (0 : Int) ≤ (m : Int) := by omega
  have k2 : (m : Int) ≤ (ac : Int) := by omega
  have k3 : (0 : Int) ≤ (p : Int) := by omega
  have k4 : (p : Int) ≤ (bc : Int) := by omega
  obtain ⟨x, HX⟩ : ∃ x, Hid (xs.take m = x) := ⟨_, rfl⟩
  obtain ⟨y, HY⟩ : ∃ y, Hid (bs.take p = y) := ⟨_, rfl⟩
  have HA : Hid (∀ W, Below w.heap.size w W → Bytes W ao m x) := fun W hW => by rw [← HX.out]; exact bytes_take (bytes_kept h1 hW (Nat.le_refl _)) m (by omega)
  have HB : Hid (∀ W, Below w.heap.size w W → Bytes W bo p y) := fun W hW => by rw [← HY.out]; exact bytes_take (bytes_kept h2 hW (Nat.le_refl _)) p (by omega)
  have FA : Hid (SV.fine ⟨ao, m, ac, x⟩) := ⟨f1.1, (by show m ≤ ac; omega), g3⟩
  have FB : Hid (SV.fine ⟨bo, p, bc, y⟩) := ⟨f2.1, (by show p ≤ bc; omega), g4⟩
  have HXL : Hid (x.length = m) := (HA.out w (Below.refl _ _)).1
  have HYL : Hid (y.length = p) := (HB.out w (Below.refl _ _)).1
  have hm1 : m ≤ 3000 := by omega
  have hp1 : p ≤ 3000 := by omega
  obtain ⟨K, hK⟩ : ∃ k, 8 + m = k := ⟨_, rfl⟩
  obtain ⟨d, hd⟩ : ∃ k, 8 + p = k := ⟨_, rfl⟩
  obtain ⟨K2, hK2⟩ : ∃ k, K + d = k := ⟨_, rfl⟩
  have HAT : Hid (-9223372036854775808 ≤ at0 ∧ at0 ≤ 9223372036854775807) := hat
  clear h1 h2 f1 f2 HX HY hm hp hat
  go_enter Try.func14, Try.ntmps14
  go_wp2_with fail
  refine (shown_any w).mono ?_
  rintro e w1 ⟨rfl, hb1⟩
  have HP : Hid _ := put_nil ⟨ao, m, ac, x⟩ K w1 (HA.out _ hb1) FA.out (by show m ≤ 65536; omega) hK
  have HB1 : Hid (Below w.heap.size w w1) := hb1
  clear hb1
  go_wp2_with fail
  refine Calls.mono HP.out ?_
  rintro e w2 ⟨gx, cx, rfl, hox, ⟨q1, q2⟩, ⟨q3, q4⟩, hb2⟩
  have HB2 : Hid (Below w.heap.size w w2) := HB1.out.trans (hb2.mono HB1.out.size)
  have HP2 := put_any ⟨some ⟨gx, 0, none⟩, K, cx, frameB x⟩ ⟨bo, p, bc, y⟩ w2 (own_row_bytes hox) (HB.out _ HB2.out) ⟨(fun h => by cases h), q1, q2⟩ FB.out (by show p ≤ 65536; omega) (by show K ≤ 140737488250000; omega)
  simp only [hd, hK2] at HP2
  have HPP : Hid _ := HP2
  clear hb2 HP hox q3 q4 HP2 q1 q2 HB1
  go_wp2_with fail
  refine Calls.mono HPP.out ?_
  rintro e w3 ⟨v, rfl, hown, hb3⟩
  obtain ⟨g, c, rfl, hg1, hg2, hg3, hg4⟩ := own_shape hown (by omega)
  have HB3 : Hid (Below w.heap.size w w3) := HB2.out.trans (hb3.mono HB2.out.size)
  have HZ2 : Hid (w.heap.size ≤ w2.heap.size) := HB2.out.size
  have HOW : Hid (w3.ownsRow w2.heap.size 5 1 (.slice (some ⟨g, 0, none⟩) K2 c) K2 (cellsOf (frameB x ++ frameB y))) := hown
  clear hown hb3 HPP HB2
  by_cases ht : t.toNat = 0
  · have ht' : (t.toNat : Int) = 0 := by omega
    go_wp2_with fail
    go_ret
    exact ⟨rfl, HB3.out⟩
  have ht' : ¬ (t.toNat : Int) = 0 := by omega
  have hlen : ¬ (K2 : Int) ≤ (K : Int) := by omega
  have hlen2 : decide (K2 ≤ K) = false := by simp; omega
  have hd0 : ¬ (d : Int) = 0 := by omega
  have HK2M : Hid (K2 ≤ 1000000) := by show K2 ≤ 1000000; omega
  by_cases hneg : at0 < 0
  · obtain ⟨r, HRR⟩ : ∃ r : Nat, Hid (-(at0 + 1) = (r : Int) ∧ r ≤ 9223372036854775807) := ⟨(-(at0 + 1)).toNat, by have := HAT.out; omega, by have := HAT.out; omega⟩
    obtain ⟨j, HJ⟩ : ∃ j : Nat, Hid ((r : Int) % (d : Int) = (j : Int) ∧ j < d) := ⟨r % d, by show (r : Int) % (d : Int) = ((r % d : Nat) : Int) ∧ r % d < d; exact ⟨by omega, Nat.mod_lt _ (by omega)⟩⟩
    have hrem := HJ.out.1
    have hjd : j < d := HJ.out.2
    obtain ⟨kk, hkk⟩ : ∃ kk, K + j = kk := ⟨_, rfl⟩
    have hkl : kk < K2 := by omega
    have hkl' : (kk : Int) < (K2 : Int) := by omega
    have hk0 : (0 : Int) ≤ (kk : Int) := by omega
    have hfl : (frameB x).length = K := by rw [frameB_length, HXL.out]; exact hK
    have hfl2 : (frameB y).length = d := by rw [frameB_length, HYL.out]; exact hd
    obtain ⟨cc, hcc⟩ : ∃ cc, (frameB y)[j]? = some cc := ⟨(frameB y)[j]'(by omega), by simp⟩
    have hcell : w3.cell? ⟨g, kk, none⟩ = some (.int .u8 (cc.toNat : Int)) := by
      rw [HOW.out.cellAt kk (by omega)]
      unfold cellsOf
      rw [List.getElem?_map, List.getElem?_append_right (by omega), show kk - (frameB x).length = j by omega, hcc]; rfl
    have hfz := HOW.out.frozenAt kk
    have hst := (HOW.out.stored kk (.int .u8 ((cc ^^^ t).toNat : Int))).1
    rw [cells_set, set_two (frameB x) (frameB y) kk j _ (by omega)] at hst
    obtain ⟨f, HF⟩ : ∃ f, Hid ((frameB y).set j (cc ^^^ t) = f) := ⟨_, rfl⟩
    rw [HF.out] at hst
    have HST : Hid ((w3.setCell ⟨g, kk, none⟩ (.int .u8 ((cc ^^^ t).toNat : Int))).ownsRow w2.heap.size 5 1 (.slice (some ⟨g, 0, none⟩) K2 c) K2 (cellsOf (frameB x ++ f))) := hst
    have HBS : Hid (Below w.heap.size w (w3.setCell ⟨g, kk, none⟩ (.int .u8 ((cc ^^^ t).toNat : Int)))) := HB3.out.setCell (Nat.le_trans HZ2.out hg1) _
    have hgs : g < (w3.setCell ⟨g, kk, none⟩ (.int .u8 ((cc ^^^ t).toNat : Int))).heap.size := by unfold World.setCell; simpa using hg2
    have hxor := u8_xor cc t
    have HTU := turned x y f (by rw [HXL.out]; omega) (by rw [← HF.out, List.length_set]) (by rw [← HF.out]; exact set_other _ _ _ (by omega) (by have := (List.getElem?_eq_some_iff.1 hcc).2; rw [this]; exact xor_ne cc t ht))
    obtain ⟨tl, HT1, HT2, HT3⟩ := HTU
    have HAL := all_any ⟨some ⟨g, 0, none⟩, K2, c, frameB x ++ f⟩ (w3.setCell ⟨g, kk, none⟩ (.int .u8 ((cc ^^^ t).toNat : Int))) (own_row_bytes HST.out) ⟨(fun h => by cases h), hg3, hg4⟩ (fun q hq => by cases hq; exact hgs) (by show K2 ≤ 1000000000; omega)
    obtain ⟨E1, HE1⟩ : ∃ z, Hid (endB (frameB x ++ f) = z) := ⟨_, rfl⟩
    obtain ⟨E2, HE2⟩ : ∃ z, Hid (restE (frameB x ++ f) = z) := ⟨_, rfl⟩
    simp only at HAL
    rw [HE1.out, HE2.out, HT1] at HAL
    rw [HE1.out, hfl] at HT2
    have HALL : Hid _ := HAL
    have HTT : Hid (tl = [] ∨ ∃ d r, tl = d :: r ∧ d ≠ y) := HT3
    have hE : ¬ (E1 : Int) < (K : Int) := by omega
    have hdd : wrap64 ((K2 : Int) - (K : Int)) = (d : Int) := wsub2 hK2 (by omega)
    have hdd2 : IntKind.i64.wrap ((K2 : Int) - (K : Int)) = (d : Int) := (IntWalk.i64_left _).trans hdd
    have hka : wrap64 ((K : Int) + (j : Int)) = (kk : Int) := wadd2 hkk (Nat.le_of_lt hkl) (Nat.le_trans (Nat.le_of_eq rfl) HK2M.out)
    have hka2 : IntKind.i64.wrap ((K : Int) + (j : Int)) = (kk : Int) := (IntWalk.i64_left _).trans hka
    obtain ⟨hnegw, hnr⟩ := wneg HRR.out.1 HRR.out.2
    clear hst HF hcc HAL HE1 HE2 HT1 HT2 HT3 HOW HST HJ hfl hfl2
    clear hmin hmin2 k1 k2 k3 k4 g1 g2 g3 g4 hkk hkl hjd hK hd hK2 hm1 hp1
    go_wp2_with fail
    refine Calls.mono HALL.out ?_
    rintro e w5 ⟨v, zs, rfl, hrow, htold, hzs, hb5⟩
    have HB5 : Hid (Below w.heap.size w w5) := HBS.out.trans (hb5.mono HBS.out.size)
    obtain ⟨z0, zr, rfl⟩ : ∃ z0 zr, zs = z0 :: zr := by
      cases zs with
      | nil => cases hzs
      | cons z0 zr => exact ⟨z0, zr, rfl⟩
    obtain ⟨L, hL⟩ : ∃ L, (z0 :: zr).length = L := ⟨_, rfl⟩
    rw [hL] at hrow
    have hL1 : 1 ≤ L := by rw [← hL]; simp
    have hL1' : ¬ (L : Int) < 1 := by omega
    have hLd : decide ((L : Int) < 1) = false := by simp; omega
    have hLd2 : decide (L < 1) = false := by simp; omega
    have hEd : decide ((E1 : Int) < (K : Int)) = false := by simp; omega
    have hEd2 : decide (E1 < K) = false := by simp; omega
    have hz0 : z0.bs = x := (List.cons.inj hzs).1
    have hzr : zr.map SV.bs = tl := (List.cons.inj hzs).2
    obtain ⟨gr, cr, rfl⟩ : ∃ gr cr, v = .slice (some ⟨gr, 0, none⟩) L cr := by
      rcases hrow.2 with ⟨e1, e2⟩ | ⟨gr, cap, cur, e1, _⟩
      · omega
      · exact ⟨_, _, e1⟩
    have HR5 : Hid (w5.ownsRow (w3.setCell ⟨g, kk, none⟩ (.int .u8 ((cc ^^^ t).toNat : Int))).heap.size 28 1 (.slice (some ⟨gr, 0, none⟩) L cr) L (svC (z0 :: zr))) := hrow
    have HT5 : Hid (Told (w3.setCell ⟨g, kk, none⟩ (.int .u8 ((cc ^^^ t).toNat : Int))).heap.size w5 (z0 :: zr)) := htold
    have hc0 : w5.cell? ⟨gr, 0, none⟩ = some (.slice z0.ao z0.n z0.c) := sv_at HR5.out (i := 0) rfl
    have hb0 : Bytes w5 z0.ao z0.n x := by
      obtain ⟨ao3, c3, e3, hb3, -⟩ := own_bytes (HT5.out.1 z0 (by simp))
      cases e3; rw [← hz0]; exact hb3
    have cv0 : ∀ k, (convert 28 9 (.slice z0.ao z0.n z0.c)).run Try.prog (w5.drewN k) = .ok (.string (bS x)) (w5.drewN k) := fun k => str_bS _ (bytes_drewN k hb0)
    have cvx : ∀ k, (convert 28 9 (.slice ao m ac)).run Try.prog (w5.drewN k) = .ok (.string (bS x)) (w5.drewN k) := fun k => str_bS _ (bytes_drewN k (HA.out _ HB5.out))
    have hLi : (0 : Int) < (L : Int) := by omega
    have HZL : Hid (zr.length + 1 = L) := by show _ = _; rw [← hL]; simp
    clear hrow htold hb5 HALL hb0 hzs hz0 hdd hdd2 hka hka2 hrem hcell hfz hxor
    go_wp2_with fail
    go_quiet (fail)
    clear cv0 cvx hc0
    have HB6 : Hid (Below w.heap.size w (w5.drewN nq)) := bel_drewN HB5.out nq
    rcases HTT.out with h0 | ⟨d2, r2, h0, hne⟩
    · have hL2 : L = 1 := by have := HZL.out; rw [h0] at hzr; have : zr = [] := List.map_eq_nil_iff.1 hzr; subst this; simp at *; omega
      subst hL2
      clear HR5 HT5 hzr
      generalize w5.drewN nq = w6 at *
      go_wp2_with fail
      go_quiet (fail)
      go_wp2_with fail
      go_ret
      exact ⟨rfl, bel_drewN HB6.out nq⟩
    · rw [h0] at hzr
      obtain ⟨z1, zt, rfl⟩ : ∃ z1 zt, zr = z1 :: zt := by
        cases zr with
        | nil => cases hzr
        | cons z1 zt => exact ⟨z1, zt, rfl⟩
      have hz1 : z1.bs = d2 := (List.cons.inj hzr).1
      have hL2 : 2 ≤ L := by have := HZL.out; simp at this; omega
      have hLn : ¬ (L : Int) = 1 := by omega
      have hLi2 : (1 : Int) < (L : Int) := by omega
      have hLe : ((L : Int) == 1) = false := by simp; omega
      have hlow := bel_drewN (Below.refl w5.heap.size w5) nq
      have hc1 : (w5.drewN nq).cell? ⟨gr, 1, none⟩ = some (.slice z1.ao z1.n z1.c) := sv_at (own_below HR5.out hlow (Nat.le_refl _)) (i := 1) rfl
      have hb1 : Bytes (w5.drewN nq) z1.ao z1.n d2 := by
        obtain ⟨ao3, c3, e3, hb3, -⟩ := own_bytes (own_below (HT5.out.1 z1 (by simp)) hlow (Nat.le_refl _))
        cases e3; rw [← hz1]; exact hb3
      have hsn : ((bS d2).toList == (bS y).toList) = false := by rw [str_same]; exact decide_eq_false hne
      clear HR5 HT5 hzr hlow
      generalize w5.drewN nq = w6 at *
      have cv1 : ∀ k, (convert 28 9 (.slice z1.ao z1.n z1.c)).run Try.prog (w6.drewN k) = .ok (.string (bS d2)) (w6.drewN k) := fun k => str_bS _ (bytes_drewN k hb1)
      have cvy : ∀ k, (convert 28 9 (.slice bo p bc)).run Try.prog (w6.drewN k) = .ok (.string (bS y)) (w6.drewN k) := fun k => str_bS _ (bytes_drewN k (HB.out _ HB6.out))
      clear hb1 hL1 hL2 hz1
      go_wp2_with fail
      go_quiet (fail)
      go_wp2_with fail
      go_ret
      exact ⟨rfl, bel_drewN HB6.out nq⟩
  · obtain ⟨r, rfl⟩ : ∃ r : Nat, at0 = (r : Int) := ⟨at0.toNat, by omega⟩
    obtain ⟨j, HJ⟩ : ∃ j : Nat, Hid ((r : Int) % (d : Int) = (j : Int) ∧ j < d) := ⟨r % d, by show (r : Int) % (d : Int) = ((r % d : Nat) : Int) ∧ r % d < d; exact ⟨by omega, Nat.mod_lt _ (by omega)⟩⟩
    have hrem := HJ.out.1
    have hjd : j < d := HJ.out.2
    obtain ⟨kk, hkk⟩ : ∃ kk, K + j = kk := ⟨_, rfl⟩
    have hkl : kk < K2 := by omega
    have hkl' : (kk : Int) < (K2 : Int) := by omega
    have hk0 : (0 : Int) ≤ (kk : Int) := by omega
    have hfl : (frameB x).length = K := by rw [frameB_length, HXL.out]; exact hK
    have hfl2 : (frameB y).length = d := by rw [frameB_length, HYL.out]; exact hd
    obtain ⟨cc, hcc⟩ : ∃ cc, (frameB y)[j]? = some cc := ⟨(frameB y)[j]'(by omega), by simp⟩
    have hcell : w3.cell? ⟨g, kk, none⟩ = some (.int .u8 (cc.toNat : Int)) := by
      rw [HOW.out.cellAt kk (by omega)]
      unfold cellsOf
      rw [List.getElem?_map, List.getElem?_append_right (by omega), show kk - (frameB x).length = j by omega, hcc]; rfl
    have hfz := HOW.out.frozenAt kk
    have hst := (HOW.out.stored kk (.int .u8 ((cc ^^^ t).toNat : Int))).1
    rw [cells_set, set_two (frameB x) (frameB y) kk j _ (by omega)] at hst
    obtain ⟨f, HF⟩ : ∃ f, Hid ((frameB y).set j (cc ^^^ t) = f) := ⟨_, rfl⟩
    rw [HF.out] at hst
    have HST : Hid ((w3.setCell ⟨g, kk, none⟩ (.int .u8 ((cc ^^^ t).toNat : Int))).ownsRow w2.heap.size 5 1 (.slice (some ⟨g, 0, none⟩) K2 c) K2 (cellsOf (frameB x ++ f))) := hst
    have HBS : Hid (Below w.heap.size w (w3.setCell ⟨g, kk, none⟩ (.int .u8 ((cc ^^^ t).toNat : Int)))) := HB3.out.setCell (Nat.le_trans HZ2.out hg1) _
    have hgs : g < (w3.setCell ⟨g, kk, none⟩ (.int .u8 ((cc ^^^ t).toNat : Int))).heap.size := by unfold World.setCell; simpa using hg2
    have hxor := u8_xor cc t
    have HTU := turned x y f (by rw [HXL.out]; omega) (by rw [← HF.out, List.length_set]) (by rw [← HF.out]; exact set_other _ _ _ (by omega) (by have := (List.getElem?_eq_some_iff.1 hcc).2; rw [this]; exact xor_ne cc t ht))
    obtain ⟨tl, HT1, HT2, HT3⟩ := HTU
    have HAL := all_any ⟨some ⟨g, 0, none⟩, K2, c, frameB x ++ f⟩ (w3.setCell ⟨g, kk, none⟩ (.int .u8 ((cc ^^^ t).toNat : Int))) (own_row_bytes HST.out) ⟨(fun h => by cases h), hg3, hg4⟩ (fun q hq => by cases hq; exact hgs) (by show K2 ≤ 1000000000; omega)
    obtain ⟨E1, HE1⟩ : ∃ z, Hid (endB (frameB x ++ f) = z) := ⟨_, rfl⟩
    obtain ⟨E2, HE2⟩ : ∃ z, Hid (restE (frameB x ++ f) = z) := ⟨_, rfl⟩
    simp only at HAL
    rw [HE1.out, HE2.out, HT1] at HAL
    rw [HE1.out, hfl] at HT2
    have HALL : Hid _ := HAL
    have HTT : Hid (tl = [] ∨ ∃ d r, tl = d :: r ∧ d ≠ y) := HT3
    have hE : ¬ (E1 : Int) < (K : Int) := by omega
    have hdd : wrap64 ((K2 : Int) - (K : Int)) = (d : Int) := wsub2 hK2 (by omega)
    have hdd2 : IntKind.i64.wrap ((K2 : Int) - (K : Int)) = (d : Int) := (IntWalk.i64_left _).trans hdd
    have hka : wrap64 ((K : Int) + (j : Int)) = (kk : Int) := wadd2 hkk (Nat.le_of_lt hkl) (Nat.le_trans (Nat.le_of_eq rfl) HK2M.out)
    have hka2 : IntKind.i64.wrap ((K : Int) + (j : Int)) = (kk : Int) := (IntWalk.i64_left _).trans hka
    clear hst HF hcc HAL HE1 HE2 HT1 HT2 HT3 HOW HST HJ hfl hfl2
    clear hmin hmin2 k1 k2 k3 k4 g1 g2 g3 g4 hkk hkl hjd hK hd hK2 hm1 hp1
    go_wp2_with fail
    refine Calls.mono HALL.out ?_
    rintro e w5 ⟨v, zs, rfl, hrow, htold, hzs, hb5⟩
    have HB5 : Hid (Below w.heap.size w w5) := HBS.out.trans (hb5.mono HBS.out.size)
    obtain ⟨z0, zr, rfl⟩ : ∃ z0 zr, zs = z0 :: zr := by
      cases zs with
      | nil => cases hzs
      | cons z0 zr => exact ⟨z0, zr, rfl⟩
    obtain ⟨L, hL⟩ : ∃ L, (z0 :: zr).length = L := ⟨_, rfl⟩
    rw [hL] at hrow
    have hL1 : 1 ≤ L := by rw [← hL]; simp
    have hL1' : ¬ (L : Int) < 1 := by omega
    have hLd : decide ((L : Int) < 1) = false := by simp; omega
    have hLd2 : decide (L < 1) = false := by simp; omega
    have hEd : decide ((E1 : Int) < (K : Int)) = false := by simp; omega
    have hEd2 : decide (E1 < K) = false := by simp; omega
    have hz0 : z0.bs = x := (List.cons.inj hzs).1
    have hzr : zr.map SV.bs = tl := (List.cons.inj hzs).2
    obtain ⟨gr, cr, rfl⟩ : ∃ gr cr, v = .slice (some ⟨gr, 0, none⟩) L cr := by
      rcases hrow.2 with ⟨e1, e2⟩ | ⟨gr, cap, cur, e1, _⟩
      · omega
      · exact ⟨_, _, e1⟩
    have HR5 : Hid (w5.ownsRow (w3.setCell ⟨g, kk, none⟩ (.int .u8 ((cc ^^^ t).toNat : Int))).heap.size 28 1 (.slice (some ⟨gr, 0, none⟩) L cr) L (svC (z0 :: zr))) := hrow
    have HT5 : Hid (Told (w3.setCell ⟨g, kk, none⟩ (.int .u8 ((cc ^^^ t).toNat : Int))).heap.size w5 (z0 :: zr)) := htold
    have hc0 : w5.cell? ⟨gr, 0, none⟩ = some (.slice z0.ao z0.n z0.c) := sv_at HR5.out (i := 0) rfl
    have hb0 : Bytes w5 z0.ao z0.n x := by
      obtain ⟨ao3, c3, e3, hb3, -⟩ := own_bytes (HT5.out.1 z0 (by simp))
      cases e3; rw [← hz0]; exact hb3
    have cv0 : ∀ k, (convert 28 9 (.slice z0.ao z0.n z0.c)).run Try.prog (w5.drewN k) = .ok (.string (bS x)) (w5.drewN k) := fun k => str_bS _ (bytes_drewN k hb0)
    have cvx : ∀ k, (convert 28 9 (.slice ao m ac)).run Try.prog (w5.drewN k) = .ok (.string (bS x)) (w5.drewN k) := fun k => str_bS _ (bytes_drewN k (HA.out _ HB5.out))
    have hLi : (0 : Int) < (L : Int) := by omega
    have HZL : Hid (zr.length + 1 = L) := by show _ = _; rw [← hL]; simp
    clear hrow htold hb5 HALL hb0 hzs hz0 hdd hdd2 hka hka2 hrem hcell hfz hxor
    go_wp2_with fail
    go_quiet (fail)
    clear cv0 cvx hc0
    have HB6 : Hid (Below w.heap.size w (w5.drewN nq)) := bel_drewN HB5.out nq
    rcases HTT.out with h0 | ⟨d2, r2, h0, hne⟩
    · have hL2 : L = 1 := by have := HZL.out; rw [h0] at hzr; have : zr = [] := List.map_eq_nil_iff.1 hzr; subst this; simp at *; omega
      subst hL2
      clear HR5 HT5 hzr
      generalize w5.drewN nq = w6 at *
      go_wp2_with fail
      go_quiet (fail)
      go_wp2_with fail
      go_ret
      exact ⟨rfl, bel_drewN HB6.out nq⟩
    · rw [h0] at hzr
      obtain ⟨z1, zt, rfl⟩ : ∃ z1 zt, zr = z1 :: zt := by
        cases zr with
        | nil => cases hzr
        | cons z1 zt => exact ⟨z1, zt, rfl⟩
      have hz1 : z1.bs = d2 := (List.cons.inj hzr).1
      have hL2 : 2 ≤ L := by have := HZL.out; simp at this; omega
      have hLn : ¬ (L : Int) = 1 := by omega
      have hLi2 : (1 : Int) < (L : Int) := by omega
      have hLe : ((L : Int) == 1) = false := by simp; omega
      have hlow := bel_drewN (Below.refl w5.heap.size w5) nq
      have hc1 : (w5.drewN nq).cell? ⟨gr, 1, none⟩ = some (.slice z1.ao z1.n z1.c) := sv_at (own_below HR5.out hlow (Nat.le_refl _)) (i := 1) rfl
      have hb1 : Bytes (w5.drewN nq) z1.ao z1.n d2 := by
        obtain ⟨ao3, c3, e3, hb3, -⟩ := own_bytes (own_below (HT5.out.1 z1 (by simp)) hlow (Nat.le_refl _))
        cases e3; rw [← hz1]; exact hb3
      have hsn : ((bS d2).toList == (bS y).toList) = false := by rw [str_same]; exact decide_eq_false hne
      clear HR5 HT5 hzr hlow
      generalize w5.drewN nq = w6 at *
      have cv1 : ∀ k, (convert 28 9 (.slice z1.ao z1.n z1.c)).run Try.prog (w6.drewN k) = .ok (.string (bS d2)) (w6.drewN k) := fun k => str_bS _ (bytes_drewN k hb1)
      have cvy : ∀ k, (convert 28 9 (.slice bo p bc)).run Try.prog (w6.drewN k) = .ok (.string (bS y)) (w6.drewN k) := fun k => str_bS _ (bytes_drewN k (HB.out _ HB6.out))
      clear hb1 hL1 hL2 hz1
      go_wp2_with fail
      go_quiet (fail)
      go_wp2_with fail
      go_ret
      exact ⟨rfl, bel_drewN HB6.out nq⟩
end Go.Proofs.Ytaejcclepahefaa
