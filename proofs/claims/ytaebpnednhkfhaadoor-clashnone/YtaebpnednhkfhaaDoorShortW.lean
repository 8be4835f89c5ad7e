/-
  The walk of marlstonelaw05.TreeShort.
-/
import Derived.Test.YtaebpnednhkfhaaDoorDepthW
namespace Go.Proofs.YtaebpnednhkfhaaDoor
open Go.RowKit
theorem winc {i n : Nat} (h : i < n) (hn : n ≤ 1000) : wrap64 ((i : Int) + 1) = ((i + 1 : Nat) : Int) := by unfold wrap64; omega
theorem wtwo {j : Nat} (h : j ≤ 1000) : wrap64 (2 * (j : Int)) = 2 * (j : Int) := by unfold wrap64; omega
/-- How often a digest is in a list. -/
def cnt (d : List UInt8) (l : List (List UInt8)) : Nat := (l.map fun e => if (e == d) = true then 1 else 0).sum
theorem cnt_succ (d : List UInt8) (l : List (List UInt8)) (b : Nat) (e : List UInt8) (h : l[b]? = some e) : cnt d (l.take (b + 1)) = cnt d (l.take b) + if (e == d) = true then 1 else 0 := by
  unfold cnt; rw [List.take_add_one, h]; simp
theorem cnt_perm {d : List UInt8} {l m : List (List UInt8)} (h : l.Perm m) : cnt d l = cnt d m := by
  unfold cnt; exact (h.map _).sum_nat
theorem pathD_in (z : Int) (ls : List LV) (i : Nat) (h : i < ls.length) : pathD z ls (i : Int) = besideD z ls (spanS (upL ls.length i)) := by
  unfold pathD; rw [if_pos (by omega), Int.toNat_natCast]
theorem rangeD_in (z : Int) (ls : List LV) (i k : Nat) (h : i < k) (hk : k ≤ ls.length) : rangeD z ls (i : Int) (k : Int) = besideD z ls (outL 0 ls.length i k) := by
  unfold rangeD; rw [if_pos (by omega), Int.toNat_natCast, Int.toNat_natCast]
theorem out_short {n i k j : Nat} (hik : i < k) (hkn : k ≤ n) (hn : n ≤ 1000) (hj : n ≤ 2 ^ j) : (outL 0 n i k).length ≤ 2 * j := by
  by_cases h1 : i = 0 ∧ k = n
  · obtain ⟨rfl, rfl⟩ := h1
    rw [outL_within (by omega) (by omega)]; simp
  · have h := (outL_few i k hik j 0 n (by omega) (by omega) (by omega)).2.1 (by omega)
    omega
set_option maxRecDepth 100000 in
set_option maxHeartbeats 20000000 in
theorem short_walk (a0 : Option Addr) (n0 c0 : Nat) (b off : Nat) (ps : List PP) (f0 t0 : Int) (w : World) (hP : Pieces w b off ps) (hn : ps.length = n0) (ha : 0 < n0 → a0 = some ⟨b, off, none⟩) (hK : WW w 0 ks) (h0 : 0 < w.heap.size) :
    Calls Tryd.prog 8 #[.slice a0 n0 c0, .int .i64 f0, .int .i64 t0] w fun e w' => e = .returned (.bool true) ∧ Below w.heap.size w w' := by
  have HKW : Hid (WW w 0 ks ∧ 0 < w.heap.size) := ⟨hK, h0⟩
  have HSH : Hid (∀ W, Below w.heap.size w W → Calls Tryd.prog 20 #[] W fun e w' => e = .returned (.bool true) ∧ Below W.heap.size W w') := fun W hW => shown_any W (hK.below hW h0) (Nat.lt_of_lt_of_le h0 hW.size)
  have HSM : Hid (∀ W, Below w.heap.size w W → Calls Tryd.prog 21 #[.slice a0 n0 c0] W fun e w' => ∃ ao' n' c', e = .returned (.slice ao' n' c') ∧ CutV w' ao' n' c' (cutL ps 70 200) ∧ n' ≤ 70 ∧ Below W.heap.size W w') := fun W hW => small_any b off n0 c0 a0 ps W (hP.below hW (Nat.le_refl _)) hn ha
  clear hP hn ha hK h0
  obtain ⟨r1, hbit1, hr1⟩ : ∃ r : Nat, bits .and .i64 f0 65535 = (r : Int) ∧ r ≤ 65535 := ⟨(f0 % 65536).toNat, by rw [and65535]; omega, by omega⟩
  obtain ⟨r2, hbit2, hr2⟩ : ∃ r : Nat, bits .and .i64 t0 65535 = (r : Int) ∧ r ≤ 65535 := ⟨(t0 % 65536).toNat, by rw [and65535]; omega, by omega⟩
  go_enter Tryd.func8, Tryd.ntmps8
  go_wp2_with fail
  refine (HSH.out _ (Below.refl w.heap.size w)).mono ?_
  rintro e w1 ⟨rfl, hb1⟩
  have HB1 : Hid (Below w.heap.size w w1) := (Below.refl w.heap.size w).trans (hb1.mono (Below.refl w.heap.size w).size)
  have HB01 : Hid (Below _ _ w1) := hb1
  clear hb1
  go_wp2_with fail
  refine (HSM.out _ HB1.out).mono ?_
  rintro e w2 ⟨ao, n, c, rfl, ⟨ls, hL, hE⟩, hn70, hb2⟩
  have HLV : Hid (LeavesV w2 ao n c ls) := hL
  have HEL : Hid (bytesL ls = cutL ps 70 200) := hE
  have HN70 : Hid (n ≤ 70) := hn70
  have HB2 : Hid (Below w.heap.size w w2) := HB1.out.trans (hb2.mono HB1.out.size)
  have HB02 : Hid (Below _ _ w2) := HB01.out.trans (hb2.mono HB01.out.size)
  have HKB : Hid (∀ W, Below w2.heap.size w2 W → WW W 0 ks ∧ 0 < W.heap.size) := fun W hW => by
    have h1 := HB2.out.trans (hW.mono HB2.out.size)
    exact ⟨HKW.out.1.below h1 HKW.out.2, Nat.lt_of_lt_of_le HKW.out.2 h1.size⟩
  clear hL hE hn70 hb2 HB1 HSH HSM HB01
  have HNC : Hid (n ≤ c ∧ c ≤ 9223372036854775807) := ⟨HLV.out.2.1, HLV.out.2.2.1⟩
  by_cases hn0 : n = 0
  · subst hn0
    go_wp2_with fail
    go_ret
    exact ⟨rfl, HB2.out⟩
  have HN0 : Hid (0 < n) := by show 0 < n; omega
  have hz1 : ((n : Int) == 0) = false := by simp; omega
  obtain ⟨b1, o1, rfl, -⟩ := HLV.out.2.2.2 (by omega)
  clear hn0
  go_wp2_with fail
  go_loopw [9] (fun s9 wr => ∃ (j : Nat), s9 = .int .i64 j ∧ j ≤ 7 ∧ Hid (wr = w2)) (fun x _ => 7 - (intOf x).toNat)
  case atStart => exact ⟨0, rfl, by omega, rfl⟩
  case round =>
    obtain ⟨j, rfl, hj, HWR⟩ := hrel
    obtain ⟨p, HPJ⟩ : ∃ p : Nat, Hid ((2 : Nat) ^ j = p) := ⟨_, rfl⟩
    have HPB : Hid (p ≤ 128) := by show _ ≤ _; rw [← HPJ.out]; exact Nat.pow_le_pow_right (by omega) hj
    have HSHV : Hid _ := shl_val HPJ.out (Nat.le_trans HPB.out (by decide))
    have hjz : (0 : Int) ≤ (j : Int) := by omega
    by_cases hlt : p < n
    case pos =>
      have hlz : (p : Int) < (n : Int) := by omega
      have hj1 : j + 1 ≤ 7 := by
        rcases Nat.lt_or_ge j 7 with h | h
        · omega
        · have : j = 7 := by omega
          subst this
          have h1 := HPJ.out
          have h2 := HN70.out
          simp at h1
          omega
      have hsh := HSHV.out
      clear hlt
      go_wp2_with fail
      clear hsh
      refine ⟨⟨j + 1, rfl, hj1, HWR⟩, ?_⟩
      simp [intOf]
      omega
    case neg =>
      have hlz : ¬ (p : Int) < (n : Int) := by omega
      have HNP : Hid (n ≤ 2 ^ j) := by show _ ≤ _; rw [HPJ.out]; omega
      have HJ7 : Hid (j ≤ 7) := hj
      have hlzn : decide (p < n) = false := decide_eq_false hlt
      have hlzd : decide ((p : Int) < (n : Int)) = false := decide_eq_false hlz
      obtain ⟨i, HID⟩ : ∃ i : Nat, Hid (r1 % n = i) := ⟨_, rfl⟩
      have HIN : Hid (i < n) := by show _ < _; rw [← HID.out]; exact Nat.mod_lt _ HN0.out
      have hrem1 : (r1 : Int).tmod (n : Int) = (i : Int) := by rw [Int.tmod_eq_emod_of_nonneg (by omega), ← HID.out]; rfl
      obtain ⟨t, HTD⟩ : ∃ t : Nat, Hid (r2 % (n - i) = t) := ⟨_, rfl⟩
      have HTN : Hid (i + 1 + t ≤ n) := by
        have h1 := Nat.mod_lt r2 (show 0 < n - i by have := HIN.out; omega)
        have h2 := HTD.out
        show _ ≤ _
        have := HIN.out
        omega
      have hsub : (n : Int) - (i : Int) = ((n - i : Nat) : Int) := by have := HIN.out; omega
      have hdz : (((n - i : Nat) : Int) == 0) = false := by have := HIN.out; simp; omega
      have hrem2 : (r2 : Int).tmod ((n - i : Nat) : Int) = (t : Int) := by rw [Int.tmod_eq_emod_of_nonneg (by omega), ← HTD.out]; rfl
      obtain ⟨m, HMD⟩ : ∃ m : Nat, Hid (n - i = m) := ⟨_, rfl⟩
      rw [HMD.out] at hdz hrem2
      obtain ⟨i1, HI1⟩ : ∃ m : Nat, Hid (i + 1 = m) := ⟨_, rfl⟩
      obtain ⟨k, HKD⟩ : ∃ m : Nat, Hid (i1 + t = m) := ⟨_, rfl⟩
      have HIK : Hid (i1 = i + 1 ∧ i < k ∧ k ≤ n ∧ i < n ∧ ls.length = n ∧ n ≤ 70) := by
        have h1 := HI1.out
        have h2 := HKD.out
        have h3 := HTN.out
        show _ ∧ _ ∧ _ ∧ _ ∧ _ ∧ _
        exact ⟨by omega, by omega, by omega, HIN.out, HLV.out.1, HN70.out⟩
      have hnz0 : ¬ (n : Int) = 0 := by have := HN0.out; omega
      have hmz0 : ¬ (m : Int) = 0 := by have := HMD.out; have := HIN.out; omega
      have hnz2 : ¬ n = 0 := by have := HN0.out; omega
      have hmz2 : ¬ m = 0 := by have := HMD.out; have := HIN.out; omega
      clear hsub hr1 hr2 hlt
      have HCP : Hid (∀ W, Below w2.heap.size w2 W → Calls Tryd.prog 38 #[.slice (some ⟨b1, o1, none⟩) n c, .int .i64 (i : Int)] W fun e w' => ∃ v, e = .returned (.tuple #[v, .int .i64 (pathE n i)]) ∧ DgV w' W.heap.size v (pathD 256 ls i) ∧ Below W.heap.size W w') := fun W hW => pathN_any _ n c ls i W (HLV.out.below hW (Nat.le_refl _)) (by have := HN70.out; omega) (HKB.out W hW).1 (HKB.out W hW).2
      have HCR : Hid (∀ (x y : Int) W, Below w2.heap.size w2 W → Calls Tryd.prog 39 #[.slice (some ⟨b1, o1, none⟩) n c, .int .i64 x, .int .i64 y] W fun e w' => ∃ v, e = .returned (.tuple #[v, .int .i64 (rangeE n x y)]) ∧ DgV w' W.heap.size v (rangeD 256 ls x y) ∧ Below W.heap.size W w') := fun x y W hW => rangeN_any _ n c ls x y W (HLV.out.below hW (Nat.le_refl _)) (by have := HN70.out; omega) (HKB.out W hW).1 (HKB.out W hW).2
      obtain ⟨P, HP⟩ : ∃ P, Hid (pathD 256 ls (i : Int) = P) := ⟨_, rfl⟩
      obtain ⟨O, HO⟩ : ∃ P, Hid (rangeD 256 ls (i : Int) (i1 : Int) = P) := ⟨_, rfl⟩
      have HOP : Hid (O.Perm P) := by
        show List.Perm _ _
        have h := HIK.out
        rw [← HO.out, ← HP.out, h.1, pathD_in 256 ls i (by omega), rangeD_in 256 ls i (i + 1) (by omega) (by omega)]
        exact (out_up (by omega) (by omega)).map _
      have HPL : Hid (P.length ≤ j ∧ P.length ≤ 64) := by
        have h := HIK.out
        show _ ∧ _
        rw [← HP.out, pathD_len 256 ls i (by omega), h.2.2.2.2.1]
        exact ⟨up_short (by omega) HNP.out, upL_len _ _⟩
      have HRL : Hid ((rangeD 256 ls (i : Int) (k : Int)).length ≤ 2 * j) := by
        have h := HIK.out
        show _ ≤ _
        rw [rangeD_in 256 ls i k (by omega) (by omega), besideD, List.length_map, h.2.2.2.2.1]
        exact out_short (by omega) (by omega) (by omega) HNP.out
      have HAL : Hid ((rangeD 256 ls 0 (n : Int)).length = 0) := by
        have h := HIK.out
        show _ = _
        rw [show (0 : Int) = ((0 : Nat) : Int) from rfl, rangeD_in 256 ls 0 n (by omega) (by omega), h.2.2.2.2.1, outL_within (by omega) (by omega)]; rfl
      have HOL : Hid (O.length = P.length) := HOP.out.length_eq
      have hw1 : wrap64 ((n : Int) - (i : Int)) = (m : Int) := by rw [← HMD.out]; exact wsub (Nat.le_of_lt HIN.out) (Nat.le_trans HN70.out (by decide))
      have hw2 : wrap64 ((i : Int) + 1) = (i1 : Int) := by rw [← HI1.out]; exact winc HIN.out (Nat.le_trans HN70.out (by decide))
      have hw3 : wrap64 ((i1 : Int) + (t : Int)) = (k : Int) := by rw [← HKD.out]; exact wadd (n := k) (Nat.le_of_eq HKD.out) (Nat.le_trans HIK.out.2.2.1 (Nat.le_trans HN70.out (by decide)))
      have hsh := HSHV.out
      go_wp2_with fail
      rw [HWR.out]
      clear hw1 hw2 hw3 hsh
      refine (HCP.out _ (Below.refl _ _)).mono ?_
      rintro e w3 ⟨vp, rfl, hd3, hb3⟩
      rw [HP.out] at hd3
      have HD3 : Hid (DgV w3 w2.heap.size vp P) := hd3
      have HB3 : Hid (Below w2.heap.size w2 w3) := hb3
      clear hd3 hb3
      go_wp2_with fail
      refine (HCR.out _ _ _ HB3.out).mono ?_
      rintro e w4 ⟨vr, rfl, hd4, hb4⟩
      obtain ⟨aor, cr, rfl, -⟩ := hd4.path
      have HB4 : Hid (Below w3.heap.size w3 w4) := hb4
      have HB24 : Hid (Below w2.heap.size w2 w4) := HB3.out.trans (hb4.mono HB3.out.size)
      clear hd4 hb4
      go_wp2_with fail
      refine (HCR.out _ _ _ HB24.out).mono ?_
      rintro e w5 ⟨va, rfl, hd5, hb5⟩
      obtain ⟨aoa, ca, rfl, -⟩ := hd5.path
      have HB5 : Hid (Below w3.heap.size w3 w5) := HB4.out.trans (hb5.mono HB4.out.size)
      have HB25 : Hid (Below w2.heap.size w2 w5) := HB24.out.trans (hb5.mono HB24.out.size)
      clear hd5 hb5
      have hw2 : wrap64 ((i : Int) + 1) = (i1 : Int) := by rw [← HI1.out]; exact winc HIN.out (Nat.le_trans HN70.out (by decide))
      go_wp2_with fail
      clear hw2
      refine (HCR.out _ _ _ HB25.out).mono ?_
      rintro e w6 ⟨vo, rfl, hd6, hb6⟩
      rw [HO.out] at hd6
      have HB6 : Hid (Below w3.heap.size w3 w6) := HB5.out.trans (hb6.mono HB5.out.size)
      have HB26 : Hid (Below w2.heap.size w2 w6) := HB25.out.trans (hb6.mono HB25.out.size)
      obtain ⟨aop, cp, rfl, hcp1, hcp2, hPV, -⟩ := (HD3.out.below HB6.out (Nat.le_refl _)).path
      obtain ⟨aoo, co, rfl, hco1, hco2, hOV, -⟩ := hd6.path
      have HPV : Hid (PathV w6 aop P) := hPV
      have HOV : Hid (PathV w6 aoo O) := hOV
      have HBW : Hid (∀ W, Below w6.heap.size w6 W → Below w.heap.size w W) := fun W hW => HB2.out.trans ((HB26.out.trans (hW.mono HB26.out.size)).mono HB2.out.size)
      obtain ⟨rl, HRLN⟩ : ∃ q : Nat, Hid ((rangeD 256 ls (i : Int) (k : Int)).length = q) := ⟨_, rfl⟩
      rw [HRLN.out] at HRL
      simp only [HRLN.out, HAL.out, HOL.out]
      obtain ⟨L, HL⟩ : ∃ q : Nat, Hid (P.length = q) := ⟨_, rfl⟩
      simp only [HL.out]
      rw [HL.out] at HPL
      have hg1 : ¬ (j : Int) < (L : Int) := by have := HPL.out; omega
      have hg1d : decide ((j : Int) < (L : Int)) = false := decide_eq_false hg1
      have hg1n : decide (j < L) = false := decide_eq_false (by have := HPL.out; omega)
      have hg2 : ¬ 2 * (j : Int) < (rl : Int) := by have := HRL.out; omega
      have hg2d : decide (2 * (j : Int) < (rl : Int)) = false := decide_eq_false hg2
      have hw7 : wrap64 (2 * (j : Int)) = 2 * (j : Int) := wtwo (Nat.le_trans HJ7.out (by decide))
      clear hd6 hb6 hPV hOV hcp1 hcp2 hco1 hco2 hrem1 hrem2 hdz hz1 hbit1 hbit2 hlz hlzn hlzd hjz hj hnz0 hmz0 hnz2 hmz2 HCP HCR
      go_wp2_with fail
      clear hg1 hg1d hg1n hg2 hg2d hw7
      go_loopw [20, 21, 22, 23] (fun s20 _ _ _ wr => ∃ (a : Nat), s20 = .int .i64 a ∧ a ≤ L ∧ Hid (Below w6.heap.size w6 wr)) (fun x _ _ _ _ => L - (intOf x).toNat)
      case atStart => exact ⟨0, rfl, Nat.zero_le _, Below.refl _ _⟩
      case round =>
        obtain ⟨wa, hwa⟩ : ∃ W, W = wr := ⟨_, rfl⟩
        subst hwa
        obtain ⟨a, rfl, ha, HBA⟩ := hrel
        by_cases hlt : a < L
        case neg =>
          have hkz : ¬ (a : Int) < (L : Int) := by omega
          clear ha hlt
          go_wp2_with fail
          go_ret
          exact ⟨rfl, HBW.out _ HBA.out⟩
        case pos =>
          have hkz : (a : Int) < (L : Int) := by omega
          obtain ⟨pb, po, rfl, hpp⟩ := HPV.out.2 (by have := HL.out; omega)
          obtain ⟨ob, oo, rfl, hoo⟩ := HOV.out.2 (by have := HL.out; have := HOL.out; omega)
          have HPP : Hid (∀ k d, P[k]? = some d → w6.rangeAt pb (po + k * 32) (cellsOf d)) := hpp
          have HOO : Hid (∀ k d, O[k]? = some d → w6.rangeAt ob (oo + k * 32) (cellsOf d)) := hoo
          obtain ⟨da, HDA⟩ : ∃ d, Hid (P[a]? = some d) := ⟨_, List.getElem?_eq_getElem (by have := HL.out; omega)⟩
          have HDAL : Hid (da.length = 32) := HPV.out.1 da (List.mem_of_getElem? HDA.out)
          have HIA : Hid ((Tryd.prog.info? 24).map (·.size) = some (cellsOf da).length) := by show _ = _; rw [size24, cellsOf_length, HDAL.out]
          clear hpp hoo ha
          go_wp2_with fail
          go_loopw [21, 22, 23] (fun s21 s22 s23 wr => ∃ (b x y : Nat), s23 = .int .i64 b ∧ s21 = .int .i64 x ∧ s22 = .int .i64 y ∧ b ≤ L ∧ x ≤ b ∧ y ≤ b ∧ Hid (cnt da (P.take b) = x ∧ cnt da (O.take b) = y) ∧ Hid (Below w6.heap.size w6 wr)) (fun _ _ x _ => L - (intOf x).toNat)
          case atStart => exact ⟨0, 0, 0, rfl, rfl, rfl, Nat.zero_le _, Nat.le_refl _, Nat.le_refl _, ⟨rfl, rfl⟩, HBA⟩
          case round =>
            obtain ⟨b, x, y, rfl, rfl, rfl, hb, hxb, hyb, HCX, HBE⟩ := hrel
            by_cases hltb : b < L
            case neg =>
              have hkzb : ¬ (b : Int) < (L : Int) := by omega
              have hxy : x = y := by
                have h := HCX.out
                rw [List.take_of_length_le (by have := HL.out; omega), List.take_of_length_le (by have := HL.out; have := HOL.out; omega), cnt_perm HOP.out] at h
                omega
              subst hxy
              have hL1 := HPL.out
              have HBE2 : Hid (Below w6.heap.size w6 wr) := HBE
              clear hb hxb hyb hltb
              go_wp2_with fail
              refine ⟨⟨a + 1, rfl, by omega, HBE2⟩, ?_⟩
              simp [intOf]
              omega
            case pos =>
              have hkzb : (b : Int) < (L : Int) := by omega
              obtain ⟨db, HPB⟩ : ∃ d, Hid (P[b]? = some d) := ⟨_, List.getElem?_eq_getElem (by have := HL.out; omega)⟩
              obtain ⟨dc, HOB⟩ : ∃ d, Hid (O[b]? = some d) := ⟨_, List.getElem?_eq_getElem (by have := HL.out; have := HOL.out; omega)⟩
              have HDBL : Hid (db.length = 32) := HPV.out.1 db (List.mem_of_getElem? HPB.out)
              have HDCL : Hid (dc.length = 32) := HOV.out.1 dc (List.mem_of_getElem? HOB.out)
              have HIB : Hid ((Tryd.prog.info? 24).map (·.size) = some (cellsOf db).length) := by show _ = _; rw [size24, cellsOf_length, HDBL.out]
              have HIC : Hid ((Tryd.prog.info? 24).map (·.size) = some (cellsOf dc).length) := by show _ = _; rw [size24, cellsOf_length, HDCL.out]
              have HS : Hid (∀ W, Below w6.heap.size w6 W → W.rangeAt pb (po + b * 32) (cellsOf db) ∧ W.rangeAt pb (po + a * 32) (cellsOf da) ∧ W.rangeAt ob (oo + b * 32) (cellsOf dc)) := fun W hW => ⟨range_bel (HPP.out b db HPB.out) hW (Nat.le_refl _), range_bel (HPP.out a da HDA.out) hW (Nat.le_refl _), range_bel (HOO.out b dc HOB.out) hW (Nat.le_refl _)⟩
              have HE1 : Hid (∀ w, (Op.equalIn 10000 24 (.agg (cellsOf db).toArray) (.agg (cellsOf da).toArray)).run Tryd.prog w = .ok (db == da) w) := equalIn_dig db da HDBL.out HDAL.out
              have HE2 : Hid (∀ w, (Op.equalIn 10000 24 (.agg (cellsOf dc).toArray) (.agg (cellsOf da).toArray)).run Tryd.prog w = .ok (dc == da) w) := equalIn_dig dc da HDCL.out HDAL.out
              have hg := guard24
              clear hb
              cases hq1 : (db == da) with
              | true =>
                cases hq2 : (dc == da) with
                | true =>
                  have e1 := HE1.out
                  have e2 := HE2.out
                  rw [hq1] at e1
                  rw [hq2] at e2
                  go_upto_region 24 with fail
                  refine wp_region_held_drew (S := fun W => W.rangeAt pb (po + b * 32) (cellsOf db) ∧ W.rangeAt pb (po + a * 32) (cellsOf da) ∧ W.rangeAt ob (oo + b * 32) (cellsOf dc)) (by kernel_rfl) (HS.out _ (Below.drew HBE.out)) (fun hS => ?_)
                  refine wpAnyH_take (i := 0) (v := ?_) rfl (by kernel_rfl) (by kernel_rfl) (by kernel_rfl) (fun _ _ _ h => h) (Or.inl ⟨by rfl, ?_⟩) (by assumption) ?_
                  rotate_left
                  · (intro w hSw; (try dsimp only at hSw); go_simp; try with_reducible rfl)
                  simp only [Act.put, List.getElem_toArray, List.getElem_cons_zero, List.setIfInBounds_toArray, List.set_cons_zero, List.set_cons_succ]
                  refine wpAnyH_take (i := 1) (v := ?_) rfl (by kernel_rfl) (by kernel_rfl) (by kernel_rfl) (fun _ _ _ h => h) (Or.inl ⟨by rfl, ?_⟩) (by assumption) ?_
                  rotate_left
                  · (intro w hSw; (try dsimp only at hSw); go_simp; try with_reducible rfl)
                  simp only [Act.put, List.getElem_toArray, List.getElem_cons_zero, List.getElem_cons_succ, List.setIfInBounds_toArray, List.set_cons_zero, List.set_cons_succ]
                  refine wpAnyH_take (i := 2) (v := ?_) rfl (by kernel_rfl) (by kernel_rfl) (by kernel_rfl) (fun _ _ _ h => h) (Or.inl ⟨by rfl, ?_⟩) (by assumption) ?_
                  rotate_left
                  · (intro w hSw; (try dsimp only at hSw); go_simp; try with_reducible rfl)
                  simp only [Act.put, List.getElem_toArray, List.getElem_cons_zero, List.getElem_cons_succ, List.setIfInBounds_toArray, List.set_cons_zero, List.set_cons_succ]
                  refine wpAnyH_take (i := 3) (v := .agg (cellsOf db).toArray) rfl (by kernel_rfl) (by kernel_rfl) (by kernel_rfl) (fun _ _ _ h => h) (yieldsIf_load_mid (by rfl) 24 (.tmp 116) rfl pb (po + b * 32) rfl (cellsOf db) _ (fun _ h => h.1) Tryd.underlying24 rfl HIB.out) (by assumption) ?_
                  simp only [Act.put, List.getElem_toArray, List.getElem_cons_zero, List.getElem_cons_succ, List.setIfInBounds_toArray, List.set_cons_zero, List.set_cons_succ]
                  refine wpAnyH_take (i := 4) (v := ?_) rfl (by kernel_rfl) (by kernel_rfl) (by kernel_rfl) (fun _ _ _ h => h) (Or.inl ⟨by rfl, ?_⟩) (by assumption) ?_
                  rotate_left
                  · (intro w hSw; (try dsimp only at hSw); go_simp; try with_reducible rfl)
                  simp only [Act.put, List.getElem_toArray, List.getElem_cons_zero, List.getElem_cons_succ, List.setIfInBounds_toArray, List.set_cons_zero, List.set_cons_succ]
                  refine wpAnyH_take (i := 5) (v := ?_) rfl (by kernel_rfl) (by kernel_rfl) (by kernel_rfl) (fun _ _ _ h => h) (Or.inl ⟨by rfl, ?_⟩) (by assumption) ?_
                  rotate_left
                  · (intro w hSw; (try dsimp only at hSw); go_simp; try with_reducible rfl)
                  simp only [Act.put, List.getElem_toArray, List.getElem_cons_zero, List.getElem_cons_succ, List.setIfInBounds_toArray, List.set_cons_zero, List.set_cons_succ]
                  refine wpAnyH_take (i := 6) (v := ?_) rfl (by kernel_rfl) (by kernel_rfl) (by kernel_rfl) (fun _ _ _ h => h) (Or.inl ⟨by rfl, ?_⟩) (by assumption) ?_
                  rotate_left
                  · (intro w hSw; (try dsimp only at hSw); go_simp; try with_reducible rfl)
                  simp only [Act.put, List.getElem_toArray, List.getElem_cons_zero, List.getElem_cons_succ, List.setIfInBounds_toArray, List.set_cons_zero, List.set_cons_succ]
                  refine wpAnyH_take (i := 7) (v := .agg (cellsOf da).toArray) rfl (by kernel_rfl) (by kernel_rfl) (by kernel_rfl) (fun _ _ _ h => h) (yieldsIf_load_mid (by rfl) 24 (.tmp 120) rfl pb (po + a * 32) rfl (cellsOf da) _ (fun _ h => h.2.1) Tryd.underlying24 rfl HIA.out) (by assumption) ?_
                  simp only [Act.put, List.getElem_toArray, List.getElem_cons_zero, List.getElem_cons_succ, List.setIfInBounds_toArray, List.set_cons_zero, List.set_cons_succ]
                  refine wpAnyH_take (i := 8) (v := ?_) rfl (by kernel_rfl) (by kernel_rfl) (by kernel_rfl) (fun _ _ _ h => h) (Or.inl ⟨by rfl, ?_⟩) (by assumption) ?_
                  rotate_left
                  · (intro w hSw; (try dsimp only at hSw); go_simp; try with_reducible rfl)
                  simp only [Act.put, List.getElem_toArray, List.getElem_cons_zero, List.getElem_cons_succ, List.setIfInBounds_toArray, List.set_cons_zero, List.set_cons_succ]
                  refine wpAnyH_done (by kernel_rfl) ?_ _
                  clear hS
                  have hL2 : L ≤ 64 := HPL.out.2
                  go_upto_region 26 with fail
                  clear hL2
                  refine wp_region_held_drew (S := fun W => W.rangeAt pb (po + b * 32) (cellsOf db) ∧ W.rangeAt pb (po + a * 32) (cellsOf da) ∧ W.rangeAt ob (oo + b * 32) (cellsOf dc)) (by kernel_rfl) (HS.out _ (Below.drew (Below.drew HBE.out))) (fun hS => ?_)
                  refine wpAnyH_take (i := 0) (v := ?_) rfl (by kernel_rfl) (by kernel_rfl) (by kernel_rfl) (fun _ _ _ h => h) (Or.inl ⟨by rfl, ?_⟩) (by assumption) ?_
                  rotate_left
                  · (intro w hSw; (try dsimp only at hSw); go_simp; try with_reducible rfl)
                  simp only [Act.put, List.getElem_toArray, List.getElem_cons_zero, List.setIfInBounds_toArray, List.set_cons_zero, List.set_cons_succ]
                  refine wpAnyH_take (i := 1) (v := ?_) rfl (by kernel_rfl) (by kernel_rfl) (by kernel_rfl) (fun _ _ _ h => h) (Or.inl ⟨by rfl, ?_⟩) (by assumption) ?_
                  rotate_left
                  · (intro w hSw; (try dsimp only at hSw); go_simp; try with_reducible rfl)
                  simp only [Act.put, List.getElem_toArray, List.getElem_cons_zero, List.getElem_cons_succ, List.setIfInBounds_toArray, List.set_cons_zero, List.set_cons_succ]
                  refine wpAnyH_take (i := 2) (v := ?_) rfl (by kernel_rfl) (by kernel_rfl) (by kernel_rfl) (fun _ _ _ h => h) (Or.inl ⟨by rfl, ?_⟩) (by assumption) ?_
                  rotate_left
                  · (intro w hSw; (try dsimp only at hSw); go_simp; try with_reducible rfl)
                  simp only [Act.put, List.getElem_toArray, List.getElem_cons_zero, List.getElem_cons_succ, List.setIfInBounds_toArray, List.set_cons_zero, List.set_cons_succ]
                  refine wpAnyH_take (i := 3) (v := .agg (cellsOf dc).toArray) rfl (by kernel_rfl) (by kernel_rfl) (by kernel_rfl) (fun _ _ _ h => h) (yieldsIf_load_mid (by rfl) 24 (.tmp 127) rfl ob (oo + b * 32) rfl (cellsOf dc) _ (fun _ h => h.2.2) Tryd.underlying24 rfl HIC.out) (by assumption) ?_
                  simp only [Act.put, List.getElem_toArray, List.getElem_cons_zero, List.getElem_cons_succ, List.setIfInBounds_toArray, List.set_cons_zero, List.set_cons_succ]
                  refine wpAnyH_take (i := 4) (v := ?_) rfl (by kernel_rfl) (by kernel_rfl) (by kernel_rfl) (fun _ _ _ h => h) (Or.inl ⟨by rfl, ?_⟩) (by assumption) ?_
                  rotate_left
                  · (intro w hSw; (try dsimp only at hSw); go_simp; try with_reducible rfl)
                  simp only [Act.put, List.getElem_toArray, List.getElem_cons_zero, List.getElem_cons_succ, List.setIfInBounds_toArray, List.set_cons_zero, List.set_cons_succ]
                  refine wpAnyH_take (i := 5) (v := ?_) rfl (by kernel_rfl) (by kernel_rfl) (by kernel_rfl) (fun _ _ _ h => h) (Or.inl ⟨by rfl, ?_⟩) (by assumption) ?_
                  rotate_left
                  · (intro w hSw; (try dsimp only at hSw); go_simp; try with_reducible rfl)
                  simp only [Act.put, List.getElem_toArray, List.getElem_cons_zero, List.getElem_cons_succ, List.setIfInBounds_toArray, List.set_cons_zero, List.set_cons_succ]
                  refine wpAnyH_take (i := 6) (v := ?_) rfl (by kernel_rfl) (by kernel_rfl) (by kernel_rfl) (fun _ _ _ h => h) (Or.inl ⟨by rfl, ?_⟩) (by assumption) ?_
                  rotate_left
                  · (intro w hSw; (try dsimp only at hSw); go_simp; try with_reducible rfl)
                  simp only [Act.put, List.getElem_toArray, List.getElem_cons_zero, List.getElem_cons_succ, List.setIfInBounds_toArray, List.set_cons_zero, List.set_cons_succ]
                  refine wpAnyH_take (i := 7) (v := .agg (cellsOf da).toArray) rfl (by kernel_rfl) (by kernel_rfl) (by kernel_rfl) (fun _ _ _ h => h) (yieldsIf_load_mid (by rfl) 24 (.tmp 131) rfl pb (po + a * 32) rfl (cellsOf da) _ (fun _ h => h.2.1) Tryd.underlying24 rfl HIA.out) (by assumption) ?_
                  simp only [Act.put, List.getElem_toArray, List.getElem_cons_zero, List.getElem_cons_succ, List.setIfInBounds_toArray, List.set_cons_zero, List.set_cons_succ]
                  refine wpAnyH_take (i := 8) (v := ?_) rfl (by kernel_rfl) (by kernel_rfl) (by kernel_rfl) (fun _ _ _ h => h) (Or.inl ⟨by rfl, ?_⟩) (by assumption) ?_
                  rotate_left
                  · (intro w hSw; (try dsimp only at hSw); go_simp; try with_reducible rfl)
                  simp only [Act.put, List.getElem_toArray, List.getElem_cons_zero, List.getElem_cons_succ, List.setIfInBounds_toArray, List.set_cons_zero, List.set_cons_succ]
                  refine wpAnyH_done (by kernel_rfl) ?_ _
                  clear hS
                  have HBD : Hid (Below w6.heap.size w6 wr.drew.drew) := Below.drew (Below.drew HBE.out)
                  have HC1 : Hid (cnt da (P.take (b + 1)) = x + 1) := by show _ = _; rw [cnt_succ da P b db HPB.out, hq1, HCX.out.1]; rfl
                  have HC2 : Hid (cnt da (O.take (b + 1)) = y + 1) := by show _ = _; rw [cnt_succ da O b dc HOB.out, hq2, HCX.out.2]; rfl
                  have hL1 := HPL.out
                  clear e1 e2 hg
                  go_wp2_with fail
                  refine ⟨⟨b + 1, x + 1, y + 1, by first | rfl | (push_cast; rfl), by first | rfl | (push_cast; rfl), by first | rfl | (push_cast; rfl), by omega, by omega, by omega, ⟨HC1.out, HC2.out⟩, HBD⟩, ?_⟩
                  simp [intOf]
                  omega
                | false =>
                  have e1 := HE1.out
                  have e2 := HE2.out
                  rw [hq1] at e1
                  rw [hq2] at e2
                  go_upto_region 24 with fail
                  refine wp_region_held_drew (S := fun W => W.rangeAt pb (po + b * 32) (cellsOf db) ∧ W.rangeAt pb (po + a * 32) (cellsOf da) ∧ W.rangeAt ob (oo + b * 32) (cellsOf dc)) (by kernel_rfl) (HS.out _ (Below.drew HBE.out)) (fun hS => ?_)
                  refine wpAnyH_take (i := 0) (v := ?_) rfl (by kernel_rfl) (by kernel_rfl) (by kernel_rfl) (fun _ _ _ h => h) (Or.inl ⟨by rfl, ?_⟩) (by assumption) ?_
                  rotate_left
                  · (intro w hSw; (try dsimp only at hSw); go_simp; try with_reducible rfl)
                  simp only [Act.put, List.getElem_toArray, List.getElem_cons_zero, List.setIfInBounds_toArray, List.set_cons_zero, List.set_cons_succ]
                  refine wpAnyH_take (i := 1) (v := ?_) rfl (by kernel_rfl) (by kernel_rfl) (by kernel_rfl) (fun _ _ _ h => h) (Or.inl ⟨by rfl, ?_⟩) (by assumption) ?_
                  rotate_left
                  · (intro w hSw; (try dsimp only at hSw); go_simp; try with_reducible rfl)
                  simp only [Act.put, List.getElem_toArray, List.getElem_cons_zero, List.getElem_cons_succ, List.setIfInBounds_toArray, List.set_cons_zero, List.set_cons_succ]
                  refine wpAnyH_take (i := 2) (v := ?_) rfl (by kernel_rfl) (by kernel_rfl) (by kernel_rfl) (fun _ _ _ h => h) (Or.inl ⟨by rfl, ?_⟩) (by assumption) ?_
                  rotate_left
                  · (intro w hSw; (try dsimp only at hSw); go_simp; try with_reducible rfl)
                  simp only [Act.put, List.getElem_toArray, List.getElem_cons_zero, List.getElem_cons_succ, List.setIfInBounds_toArray, List.set_cons_zero, List.set_cons_succ]
                  refine wpAnyH_take (i := 3) (v := .agg (cellsOf db).toArray) rfl (by kernel_rfl) (by kernel_rfl) (by kernel_rfl) (fun _ _ _ h => h) (yieldsIf_load_mid (by rfl) 24 (.tmp 116) rfl pb (po + b * 32) rfl (cellsOf db) _ (fun _ h => h.1) Tryd.underlying24 rfl HIB.out) (by assumption) ?_
                  simp only [Act.put, List.getElem_toArray, List.getElem_cons_zero, List.getElem_cons_succ, List.setIfInBounds_toArray, List.set_cons_zero, List.set_cons_succ]
                  refine wpAnyH_take (i := 4) (v := ?_) rfl (by kernel_rfl) (by kernel_rfl) (by kernel_rfl) (fun _ _ _ h => h) (Or.inl ⟨by rfl, ?_⟩) (by assumption) ?_
                  rotate_left
                  · (intro w hSw; (try dsimp only at hSw); go_simp; try with_reducible rfl)
                  simp only [Act.put, List.getElem_toArray, List.getElem_cons_zero, List.getElem_cons_succ, List.setIfInBounds_toArray, List.set_cons_zero, List.set_cons_succ]
                  refine wpAnyH_take (i := 5) (v := ?_) rfl (by kernel_rfl) (by kernel_rfl) (by kernel_rfl) (fun _ _ _ h => h) (Or.inl ⟨by rfl, ?_⟩) (by assumption) ?_
                  rotate_left
                  · (intro w hSw; (try dsimp only at hSw); go_simp; try with_reducible rfl)
                  simp only [Act.put, List.getElem_toArray, List.getElem_cons_zero, List.getElem_cons_succ, List.setIfInBounds_toArray, List.set_cons_zero, List.set_cons_succ]
                  refine wpAnyH_take (i := 6) (v := ?_) rfl (by kernel_rfl) (by kernel_rfl) (by kernel_rfl) (fun _ _ _ h => h) (Or.inl ⟨by rfl, ?_⟩) (by assumption) ?_
                  rotate_left
                  · (intro w hSw; (try dsimp only at hSw); go_simp; try with_reducible rfl)
                  simp only [Act.put, List.getElem_toArray, List.getElem_cons_zero, List.getElem_cons_succ, List.setIfInBounds_toArray, List.set_cons_zero, List.set_cons_succ]
                  refine wpAnyH_take (i := 7) (v := .agg (cellsOf da).toArray) rfl (by kernel_rfl) (by kernel_rfl) (by kernel_rfl) (fun _ _ _ h => h) (yieldsIf_load_mid (by rfl) 24 (.tmp 120) rfl pb (po + a * 32) rfl (cellsOf da) _ (fun _ h => h.2.1) Tryd.underlying24 rfl HIA.out) (by assumption) ?_
                  simp only [Act.put, List.getElem_toArray, List.getElem_cons_zero, List.getElem_cons_succ, List.setIfInBounds_toArray, List.set_cons_zero, List.set_cons_succ]
                  refine wpAnyH_take (i := 8) (v := ?_) rfl (by kernel_rfl) (by kernel_rfl) (by kernel_rfl) (fun _ _ _ h => h) (Or.inl ⟨by rfl, ?_⟩) (by assumption) ?_
                  rotate_left
                  · (intro w hSw; (try dsimp only at hSw); go_simp; try with_reducible rfl)
                  simp only [Act.put, List.getElem_toArray, List.getElem_cons_zero, List.getElem_cons_succ, List.setIfInBounds_toArray, List.set_cons_zero, List.set_cons_succ]
                  refine wpAnyH_done (by kernel_rfl) ?_ _
                  clear hS
                  have hL2 : L ≤ 64 := HPL.out.2
                  go_upto_region 26 with fail
                  clear hL2
                  refine wp_region_held_drew (S := fun W => W.rangeAt pb (po + b * 32) (cellsOf db) ∧ W.rangeAt pb (po + a * 32) (cellsOf da) ∧ W.rangeAt ob (oo + b * 32) (cellsOf dc)) (by kernel_rfl) (HS.out _ (Below.drew (Below.drew HBE.out))) (fun hS => ?_)
                  refine wpAnyH_take (i := 0) (v := ?_) rfl (by kernel_rfl) (by kernel_rfl) (by kernel_rfl) (fun _ _ _ h => h) (Or.inl ⟨by rfl, ?_⟩) (by assumption) ?_
                  rotate_left
                  · (intro w hSw; (try dsimp only at hSw); go_simp; try with_reducible rfl)
                  simp only [Act.put, List.getElem_toArray, List.getElem_cons_zero, List.setIfInBounds_toArray, List.set_cons_zero, List.set_cons_succ]
                  refine wpAnyH_take (i := 1) (v := ?_) rfl (by kernel_rfl) (by kernel_rfl) (by kernel_rfl) (fun _ _ _ h => h) (Or.inl ⟨by rfl, ?_⟩) (by assumption) ?_
                  rotate_left
                  · (intro w hSw; (try dsimp only at hSw); go_simp; try with_reducible rfl)
                  simp only [Act.put, List.getElem_toArray, List.getElem_cons_zero, List.getElem_cons_succ, List.setIfInBounds_toArray, List.set_cons_zero, List.set_cons_succ]
                  refine wpAnyH_take (i := 2) (v := ?_) rfl (by kernel_rfl) (by kernel_rfl) (by kernel_rfl) (fun _ _ _ h => h) (Or.inl ⟨by rfl, ?_⟩) (by assumption) ?_
                  rotate_left
                  · (intro w hSw; (try dsimp only at hSw); go_simp; try with_reducible rfl)
                  simp only [Act.put, List.getElem_toArray, List.getElem_cons_zero, List.getElem_cons_succ, List.setIfInBounds_toArray, List.set_cons_zero, List.set_cons_succ]
                  refine wpAnyH_take (i := 3) (v := .agg (cellsOf dc).toArray) rfl (by kernel_rfl) (by kernel_rfl) (by kernel_rfl) (fun _ _ _ h => h) (yieldsIf_load_mid (by rfl) 24 (.tmp 127) rfl ob (oo + b * 32) rfl (cellsOf dc) _ (fun _ h => h.2.2) Tryd.underlying24 rfl HIC.out) (by assumption) ?_
                  simp only [Act.put, List.getElem_toArray, List.getElem_cons_zero, List.getElem_cons_succ, List.setIfInBounds_toArray, List.set_cons_zero, List.set_cons_succ]
                  refine wpAnyH_take (i := 4) (v := ?_) rfl (by kernel_rfl) (by kernel_rfl) (by kernel_rfl) (fun _ _ _ h => h) (Or.inl ⟨by rfl, ?_⟩) (by assumption) ?_
                  rotate_left
                  · (intro w hSw; (try dsimp only at hSw); go_simp; try with_reducible rfl)
                  simp only [Act.put, List.getElem_toArray, List.getElem_cons_zero, List.getElem_cons_succ, List.setIfInBounds_toArray, List.set_cons_zero, List.set_cons_succ]
                  refine wpAnyH_take (i := 5) (v := ?_) rfl (by kernel_rfl) (by kernel_rfl) (by kernel_rfl) (fun _ _ _ h => h) (Or.inl ⟨by rfl, ?_⟩) (by assumption) ?_
                  rotate_left
                  · (intro w hSw; (try dsimp only at hSw); go_simp; try with_reducible rfl)
                  simp only [Act.put, List.getElem_toArray, List.getElem_cons_zero, List.getElem_cons_succ, List.setIfInBounds_toArray, List.set_cons_zero, List.set_cons_succ]
                  refine wpAnyH_take (i := 6) (v := ?_) rfl (by kernel_rfl) (by kernel_rfl) (by kernel_rfl) (fun _ _ _ h => h) (Or.inl ⟨by rfl, ?_⟩) (by assumption) ?_
                  rotate_left
                  · (intro w hSw; (try dsimp only at hSw); go_simp; try with_reducible rfl)
                  simp only [Act.put, List.getElem_toArray, List.getElem_cons_zero, List.getElem_cons_succ, List.setIfInBounds_toArray, List.set_cons_zero, List.set_cons_succ]
                  refine wpAnyH_take (i := 7) (v := .agg (cellsOf da).toArray) rfl (by kernel_rfl) (by kernel_rfl) (by kernel_rfl) (fun _ _ _ h => h) (yieldsIf_load_mid (by rfl) 24 (.tmp 131) rfl pb (po + a * 32) rfl (cellsOf da) _ (fun _ h => h.2.1) Tryd.underlying24 rfl HIA.out) (by assumption) ?_
                  simp only [Act.put, List.getElem_toArray, List.getElem_cons_zero, List.getElem_cons_succ, List.setIfInBounds_toArray, List.set_cons_zero, List.set_cons_succ]
                  refine wpAnyH_take (i := 8) (v := ?_) rfl (by kernel_rfl) (by kernel_rfl) (by kernel_rfl) (fun _ _ _ h => h) (Or.inl ⟨by rfl, ?_⟩) (by assumption) ?_
                  rotate_left
                  · (intro w hSw; (try dsimp only at hSw); go_simp; try with_reducible rfl)
                  simp only [Act.put, List.getElem_toArray, List.getElem_cons_zero, List.getElem_cons_succ, List.setIfInBounds_toArray, List.set_cons_zero, List.set_cons_succ]
                  refine wpAnyH_done (by kernel_rfl) ?_ _
                  clear hS
                  have HBD : Hid (Below w6.heap.size w6 wr.drew.drew) := Below.drew (Below.drew HBE.out)
                  have HC1 : Hid (cnt da (P.take (b + 1)) = x + 1) := by show _ = _; rw [cnt_succ da P b db HPB.out, hq1, HCX.out.1]; rfl
                  have HC2 : Hid (cnt da (O.take (b + 1)) = y) := by show _ = _; rw [cnt_succ da O b dc HOB.out, hq2, HCX.out.2]; rfl
                  have hL1 := HPL.out
                  clear e1 e2 hg
                  go_wp2_with fail
                  refine ⟨⟨b + 1, x + 1, y, by first | rfl | (push_cast; rfl), by first | rfl | (push_cast; rfl), by first | rfl | (push_cast; rfl), by omega, by omega, by omega, ⟨HC1.out, HC2.out⟩, HBD⟩, ?_⟩
                  simp [intOf]
                  omega
              | false =>
                cases hq2 : (dc == da) with
                | true =>
                  have e1 := HE1.out
                  have e2 := HE2.out
                  rw [hq1] at e1
                  rw [hq2] at e2
                  go_upto_region 24 with fail
                  refine wp_region_held_drew (S := fun W => W.rangeAt pb (po + b * 32) (cellsOf db) ∧ W.rangeAt pb (po + a * 32) (cellsOf da) ∧ W.rangeAt ob (oo + b * 32) (cellsOf dc)) (by kernel_rfl) (HS.out _ (Below.drew HBE.out)) (fun hS => ?_)
                  refine wpAnyH_take (i := 0) (v := ?_) rfl (by kernel_rfl) (by kernel_rfl) (by kernel_rfl) (fun _ _ _ h => h) (Or.inl ⟨by rfl, ?_⟩) (by assumption) ?_
                  rotate_left
                  · (intro w hSw; (try dsimp only at hSw); go_simp; try with_reducible rfl)
                  simp only [Act.put, List.getElem_toArray, List.getElem_cons_zero, List.setIfInBounds_toArray, List.set_cons_zero, List.set_cons_succ]
                  refine wpAnyH_take (i := 1) (v := ?_) rfl (by kernel_rfl) (by kernel_rfl) (by kernel_rfl) (fun _ _ _ h => h) (Or.inl ⟨by rfl, ?_⟩) (by assumption) ?_
                  rotate_left
                  · (intro w hSw; (try dsimp only at hSw); go_simp; try with_reducible rfl)
                  simp only [Act.put, List.getElem_toArray, List.getElem_cons_zero, List.getElem_cons_succ, List.setIfInBounds_toArray, List.set_cons_zero, List.set_cons_succ]
                  refine wpAnyH_take (i := 2) (v := ?_) rfl (by kernel_rfl) (by kernel_rfl) (by kernel_rfl) (fun _ _ _ h => h) (Or.inl ⟨by rfl, ?_⟩) (by assumption) ?_
                  rotate_left
                  · (intro w hSw; (try dsimp only at hSw); go_simp; try with_reducible rfl)
                  simp only [Act.put, List.getElem_toArray, List.getElem_cons_zero, List.getElem_cons_succ, List.setIfInBounds_toArray, List.set_cons_zero, List.set_cons_succ]
                  refine wpAnyH_take (i := 3) (v := .agg (cellsOf db).toArray) rfl (by kernel_rfl) (by kernel_rfl) (by kernel_rfl) (fun _ _ _ h => h) (yieldsIf_load_mid (by rfl) 24 (.tmp 116) rfl pb (po + b * 32) rfl (cellsOf db) _ (fun _ h => h.1) Tryd.underlying24 rfl HIB.out) (by assumption) ?_
                  simp only [Act.put, List.getElem_toArray, List.getElem_cons_zero, List.getElem_cons_succ, List.setIfInBounds_toArray, List.set_cons_zero, List.set_cons_succ]
                  refine wpAnyH_take (i := 4) (v := ?_) rfl (by kernel_rfl) (by kernel_rfl) (by kernel_rfl) (fun _ _ _ h => h) (Or.inl ⟨by rfl, ?_⟩) (by assumption) ?_
                  rotate_left
                  · (intro w hSw; (try dsimp only at hSw); go_simp; try with_reducible rfl)
                  simp only [Act.put, List.getElem_toArray, List.getElem_cons_zero, List.getElem_cons_succ, List.setIfInBounds_toArray, List.set_cons_zero, List.set_cons_succ]
                  refine wpAnyH_take (i := 5) (v := ?_) rfl (by kernel_rfl) (by kernel_rfl) (by kernel_rfl) (fun _ _ _ h => h) (Or.inl ⟨by rfl, ?_⟩) (by assumption) ?_
                  rotate_left
                  · (intro w hSw; (try dsimp only at hSw); go_simp; try with_reducible rfl)
                  simp only [Act.put, List.getElem_toArray, List.getElem_cons_zero, List.getElem_cons_succ, List.setIfInBounds_toArray, List.set_cons_zero, List.set_cons_succ]
                  refine wpAnyH_take (i := 6) (v := ?_) rfl (by kernel_rfl) (by kernel_rfl) (by kernel_rfl) (fun _ _ _ h => h) (Or.inl ⟨by rfl, ?_⟩) (by assumption) ?_
                  rotate_left
                  · (intro w hSw; (try dsimp only at hSw); go_simp; try with_reducible rfl)
                  simp only [Act.put, List.getElem_toArray, List.getElem_cons_zero, List.getElem_cons_succ, List.setIfInBounds_toArray, List.set_cons_zero, List.set_cons_succ]
                  refine wpAnyH_take (i := 7) (v := .agg (cellsOf da).toArray) rfl (by kernel_rfl) (by kernel_rfl) (by kernel_rfl) (fun _ _ _ h => h) (yieldsIf_load_mid (by rfl) 24 (.tmp 120) rfl pb (po + a * 32) rfl (cellsOf da) _ (fun _ h => h.2.1) Tryd.underlying24 rfl HIA.out) (by assumption) ?_
                  simp only [Act.put, List.getElem_toArray, List.getElem_cons_zero, List.getElem_cons_succ, List.setIfInBounds_toArray, List.set_cons_zero, List.set_cons_succ]
                  refine wpAnyH_take (i := 8) (v := ?_) rfl (by kernel_rfl) (by kernel_rfl) (by kernel_rfl) (fun _ _ _ h => h) (Or.inl ⟨by rfl, ?_⟩) (by assumption) ?_
                  rotate_left
                  · (intro w hSw; (try dsimp only at hSw); go_simp; try with_reducible rfl)
                  simp only [Act.put, List.getElem_toArray, List.getElem_cons_zero, List.getElem_cons_succ, List.setIfInBounds_toArray, List.set_cons_zero, List.set_cons_succ]
                  refine wpAnyH_done (by kernel_rfl) ?_ _
                  clear hS
                  have hL2 : L ≤ 64 := HPL.out.2
                  go_upto_region 26 with fail
                  clear hL2
                  refine wp_region_held_drew (S := fun W => W.rangeAt pb (po + b * 32) (cellsOf db) ∧ W.rangeAt pb (po + a * 32) (cellsOf da) ∧ W.rangeAt ob (oo + b * 32) (cellsOf dc)) (by kernel_rfl) (HS.out _ (Below.drew (Below.drew HBE.out))) (fun hS => ?_)
                  refine wpAnyH_take (i := 0) (v := ?_) rfl (by kernel_rfl) (by kernel_rfl) (by kernel_rfl) (fun _ _ _ h => h) (Or.inl ⟨by rfl, ?_⟩) (by assumption) ?_
                  rotate_left
                  · (intro w hSw; (try dsimp only at hSw); go_simp; try with_reducible rfl)
                  simp only [Act.put, List.getElem_toArray, List.getElem_cons_zero, List.setIfInBounds_toArray, List.set_cons_zero, List.set_cons_succ]
                  refine wpAnyH_take (i := 1) (v := ?_) rfl (by kernel_rfl) (by kernel_rfl) (by kernel_rfl) (fun _ _ _ h => h) (Or.inl ⟨by rfl, ?_⟩) (by assumption) ?_
                  rotate_left
                  · (intro w hSw; (try dsimp only at hSw); go_simp; try with_reducible rfl)
                  simp only [Act.put, List.getElem_toArray, List.getElem_cons_zero, List.getElem_cons_succ, List.setIfInBounds_toArray, List.set_cons_zero, List.set_cons_succ]
                  refine wpAnyH_take (i := 2) (v := ?_) rfl (by kernel_rfl) (by kernel_rfl) (by kernel_rfl) (fun _ _ _ h => h) (Or.inl ⟨by rfl, ?_⟩) (by assumption) ?_
                  rotate_left
                  · (intro w hSw; (try dsimp only at hSw); go_simp; try with_reducible rfl)
                  simp only [Act.put, List.getElem_toArray, List.getElem_cons_zero, List.getElem_cons_succ, List.setIfInBounds_toArray, List.set_cons_zero, List.set_cons_succ]
                  refine wpAnyH_take (i := 3) (v := .agg (cellsOf dc).toArray) rfl (by kernel_rfl) (by kernel_rfl) (by kernel_rfl) (fun _ _ _ h => h) (yieldsIf_load_mid (by rfl) 24 (.tmp 127) rfl ob (oo + b * 32) rfl (cellsOf dc) _ (fun _ h => h.2.2) Tryd.underlying24 rfl HIC.out) (by assumption) ?_
                  simp only [Act.put, List.getElem_toArray, List.getElem_cons_zero, List.getElem_cons_succ, List.setIfInBounds_toArray, List.set_cons_zero, List.set_cons_succ]
                  refine wpAnyH_take (i := 4) (v := ?_) rfl (by kernel_rfl) (by kernel_rfl) (by kernel_rfl) (fun _ _ _ h => h) (Or.inl ⟨by rfl, ?_⟩) (by assumption) ?_
                  rotate_left
                  · (intro w hSw; (try dsimp only at hSw); go_simp; try with_reducible rfl)
                  simp only [Act.put, List.getElem_toArray, List.getElem_cons_zero, List.getElem_cons_succ, List.setIfInBounds_toArray, List.set_cons_zero, List.set_cons_succ]
                  refine wpAnyH_take (i := 5) (v := ?_) rfl (by kernel_rfl) (by kernel_rfl) (by kernel_rfl) (fun _ _ _ h => h) (Or.inl ⟨by rfl, ?_⟩) (by assumption) ?_
                  rotate_left
                  · (intro w hSw; (try dsimp only at hSw); go_simp; try with_reducible rfl)
                  simp only [Act.put, List.getElem_toArray, List.getElem_cons_zero, List.getElem_cons_succ, List.setIfInBounds_toArray, List.set_cons_zero, List.set_cons_succ]
                  refine wpAnyH_take (i := 6) (v := ?_) rfl (by kernel_rfl) (by kernel_rfl) (by kernel_rfl) (fun _ _ _ h => h) (Or.inl ⟨by rfl, ?_⟩) (by assumption) ?_
                  rotate_left
                  · (intro w hSw; (try dsimp only at hSw); go_simp; try with_reducible rfl)
                  simp only [Act.put, List.getElem_toArray, List.getElem_cons_zero, List.getElem_cons_succ, List.setIfInBounds_toArray, List.set_cons_zero, List.set_cons_succ]
                  refine wpAnyH_take (i := 7) (v := .agg (cellsOf da).toArray) rfl (by kernel_rfl) (by kernel_rfl) (by kernel_rfl) (fun _ _ _ h => h) (yieldsIf_load_mid (by rfl) 24 (.tmp 131) rfl pb (po + a * 32) rfl (cellsOf da) _ (fun _ h => h.2.1) Tryd.underlying24 rfl HIA.out) (by assumption) ?_
                  simp only [Act.put, List.getElem_toArray, List.getElem_cons_zero, List.getElem_cons_succ, List.setIfInBounds_toArray, List.set_cons_zero, List.set_cons_succ]
                  refine wpAnyH_take (i := 8) (v := ?_) rfl (by kernel_rfl) (by kernel_rfl) (by kernel_rfl) (fun _ _ _ h => h) (Or.inl ⟨by rfl, ?_⟩) (by assumption) ?_
                  rotate_left
                  · (intro w hSw; (try dsimp only at hSw); go_simp; try with_reducible rfl)
                  simp only [Act.put, List.getElem_toArray, List.getElem_cons_zero, List.getElem_cons_succ, List.setIfInBounds_toArray, List.set_cons_zero, List.set_cons_succ]
                  refine wpAnyH_done (by kernel_rfl) ?_ _
                  clear hS
                  have HBD : Hid (Below w6.heap.size w6 wr.drew.drew) := Below.drew (Below.drew HBE.out)
                  have HC1 : Hid (cnt da (P.take (b + 1)) = x) := by show _ = _; rw [cnt_succ da P b db HPB.out, hq1, HCX.out.1]; rfl
                  have HC2 : Hid (cnt da (O.take (b + 1)) = y + 1) := by show _ = _; rw [cnt_succ da O b dc HOB.out, hq2, HCX.out.2]; rfl
                  have hL1 := HPL.out
                  clear e1 e2 hg
                  go_wp2_with fail
                  refine ⟨⟨b + 1, x, y + 1, by first | rfl | (push_cast; rfl), by first | rfl | (push_cast; rfl), by first | rfl | (push_cast; rfl), by omega, by omega, by omega, ⟨HC1.out, HC2.out⟩, HBD⟩, ?_⟩
                  simp [intOf]
                  omega
                | false =>
                  have e1 := HE1.out
                  have e2 := HE2.out
                  rw [hq1] at e1
                  rw [hq2] at e2
                  go_upto_region 24 with fail
                  refine wp_region_held_drew (S := fun W => W.rangeAt pb (po + b * 32) (cellsOf db) ∧ W.rangeAt pb (po + a * 32) (cellsOf da) ∧ W.rangeAt ob (oo + b * 32) (cellsOf dc)) (by kernel_rfl) (HS.out _ (Below.drew HBE.out)) (fun hS => ?_)
                  refine wpAnyH_take (i := 0) (v := ?_) rfl (by kernel_rfl) (by kernel_rfl) (by kernel_rfl) (fun _ _ _ h => h) (Or.inl ⟨by rfl, ?_⟩) (by assumption) ?_
                  rotate_left
                  · (intro w hSw; (try dsimp only at hSw); go_simp; try with_reducible rfl)
                  simp only [Act.put, List.getElem_toArray, List.getElem_cons_zero, List.setIfInBounds_toArray, List.set_cons_zero, List.set_cons_succ]
                  refine wpAnyH_take (i := 1) (v := ?_) rfl (by kernel_rfl) (by kernel_rfl) (by kernel_rfl) (fun _ _ _ h => h) (Or.inl ⟨by rfl, ?_⟩) (by assumption) ?_
                  rotate_left
                  · (intro w hSw; (try dsimp only at hSw); go_simp; try with_reducible rfl)
                  simp only [Act.put, List.getElem_toArray, List.getElem_cons_zero, List.getElem_cons_succ, List.setIfInBounds_toArray, List.set_cons_zero, List.set_cons_succ]
                  refine wpAnyH_take (i := 2) (v := ?_) rfl (by kernel_rfl) (by kernel_rfl) (by kernel_rfl) (fun _ _ _ h => h) (Or.inl ⟨by rfl, ?_⟩) (by assumption) ?_
                  rotate_left
                  · (intro w hSw; (try dsimp only at hSw); go_simp; try with_reducible rfl)
                  simp only [Act.put, List.getElem_toArray, List.getElem_cons_zero, List.getElem_cons_succ, List.setIfInBounds_toArray, List.set_cons_zero, List.set_cons_succ]
                  refine wpAnyH_take (i := 3) (v := .agg (cellsOf db).toArray) rfl (by kernel_rfl) (by kernel_rfl) (by kernel_rfl) (fun _ _ _ h => h) (yieldsIf_load_mid (by rfl) 24 (.tmp 116) rfl pb (po + b * 32) rfl (cellsOf db) _ (fun _ h => h.1) Tryd.underlying24 rfl HIB.out) (by assumption) ?_
                  simp only [Act.put, List.getElem_toArray, List.getElem_cons_zero, List.getElem_cons_succ, List.setIfInBounds_toArray, List.set_cons_zero, List.set_cons_succ]
                  refine wpAnyH_take (i := 4) (v := ?_) rfl (by kernel_rfl) (by kernel_rfl) (by kernel_rfl) (fun _ _ _ h => h) (Or.inl ⟨by rfl, ?_⟩) (by assumption) ?_
                  rotate_left
                  · (intro w hSw; (try dsimp only at hSw); go_simp; try with_reducible rfl)
                  simp only [Act.put, List.getElem_toArray, List.getElem_cons_zero, List.getElem_cons_succ, List.setIfInBounds_toArray, List.set_cons_zero, List.set_cons_succ]
                  refine wpAnyH_take (i := 5) (v := ?_) rfl (by kernel_rfl) (by kernel_rfl) (by kernel_rfl) (fun _ _ _ h => h) (Or.inl ⟨by rfl, ?_⟩) (by assumption) ?_
                  rotate_left
                  · (intro w hSw; (try dsimp only at hSw); go_simp; try with_reducible rfl)
                  simp only [Act.put, List.getElem_toArray, List.getElem_cons_zero, List.getElem_cons_succ, List.setIfInBounds_toArray, List.set_cons_zero, List.set_cons_succ]
                  refine wpAnyH_take (i := 6) (v := ?_) rfl (by kernel_rfl) (by kernel_rfl) (by kernel_rfl) (fun _ _ _ h => h) (Or.inl ⟨by rfl, ?_⟩) (by assumption) ?_
                  rotate_left
                  · (intro w hSw; (try dsimp only at hSw); go_simp; try with_reducible rfl)
                  simp only [Act.put, List.getElem_toArray, List.getElem_cons_zero, List.getElem_cons_succ, List.setIfInBounds_toArray, List.set_cons_zero, List.set_cons_succ]
                  refine wpAnyH_take (i := 7) (v := .agg (cellsOf da).toArray) rfl (by kernel_rfl) (by kernel_rfl) (by kernel_rfl) (fun _ _ _ h => h) (yieldsIf_load_mid (by rfl) 24 (.tmp 120) rfl pb (po + a * 32) rfl (cellsOf da) _ (fun _ h => h.2.1) Tryd.underlying24 rfl HIA.out) (by assumption) ?_
                  simp only [Act.put, List.getElem_toArray, List.getElem_cons_zero, List.getElem_cons_succ, List.setIfInBounds_toArray, List.set_cons_zero, List.set_cons_succ]
                  refine wpAnyH_take (i := 8) (v := ?_) rfl (by kernel_rfl) (by kernel_rfl) (by kernel_rfl) (fun _ _ _ h => h) (Or.inl ⟨by rfl, ?_⟩) (by assumption) ?_
                  rotate_left
                  · (intro w hSw; (try dsimp only at hSw); go_simp; try with_reducible rfl)
                  simp only [Act.put, List.getElem_toArray, List.getElem_cons_zero, List.getElem_cons_succ, List.setIfInBounds_toArray, List.set_cons_zero, List.set_cons_succ]
                  refine wpAnyH_done (by kernel_rfl) ?_ _
                  clear hS
                  have hL2 : L ≤ 64 := HPL.out.2
                  go_upto_region 26 with fail
                  clear hL2
                  refine wp_region_held_drew (S := fun W => W.rangeAt pb (po + b * 32) (cellsOf db) ∧ W.rangeAt pb (po + a * 32) (cellsOf da) ∧ W.rangeAt ob (oo + b * 32) (cellsOf dc)) (by kernel_rfl) (HS.out _ (Below.drew (Below.drew HBE.out))) (fun hS => ?_)
                  refine wpAnyH_take (i := 0) (v := ?_) rfl (by kernel_rfl) (by kernel_rfl) (by kernel_rfl) (fun _ _ _ h => h) (Or.inl ⟨by rfl, ?_⟩) (by assumption) ?_
                  rotate_left
                  · (intro w hSw; (try dsimp only at hSw); go_simp; try with_reducible rfl)
                  simp only [Act.put, List.getElem_toArray, List.getElem_cons_zero, List.setIfInBounds_toArray, List.set_cons_zero, List.set_cons_succ]
                  refine wpAnyH_take (i := 1) (v := ?_) rfl (by kernel_rfl) (by kernel_rfl) (by kernel_rfl) (fun _ _ _ h => h) (Or.inl ⟨by rfl, ?_⟩) (by assumption) ?_
                  rotate_left
                  · (intro w hSw; (try dsimp only at hSw); go_simp; try with_reducible rfl)
                  simp only [Act.put, List.getElem_toArray, List.getElem_cons_zero, List.getElem_cons_succ, List.setIfInBounds_toArray, List.set_cons_zero, List.set_cons_succ]
                  refine wpAnyH_take (i := 2) (v := ?_) rfl (by kernel_rfl) (by kernel_rfl) (by kernel_rfl) (fun _ _ _ h => h) (Or.inl ⟨by rfl, ?_⟩) (by assumption) ?_
                  rotate_left
                  · (intro w hSw; (try dsimp only at hSw); go_simp; try with_reducible rfl)
                  simp only [Act.put, List.getElem_toArray, List.getElem_cons_zero, List.getElem_cons_succ, List.setIfInBounds_toArray, List.set_cons_zero, List.set_cons_succ]
                  refine wpAnyH_take (i := 3) (v := .agg (cellsOf dc).toArray) rfl (by kernel_rfl) (by kernel_rfl) (by kernel_rfl) (fun _ _ _ h => h) (yieldsIf_load_mid (by rfl) 24 (.tmp 127) rfl ob (oo + b * 32) rfl (cellsOf dc) _ (fun _ h => h.2.2) Tryd.underlying24 rfl HIC.out) (by assumption) ?_
                  simp only [Act.put, List.getElem_toArray, List.getElem_cons_zero, List.getElem_cons_succ, List.setIfInBounds_toArray, List.set_cons_zero, List.set_cons_succ]
                  refine wpAnyH_take (i := 4) (v := ?_) rfl (by kernel_rfl) (by kernel_rfl) (by kernel_rfl) (fun _ _ _ h => h) (Or.inl ⟨by rfl, ?_⟩) (by assumption) ?_
                  rotate_left
                  · (intro w hSw; (try dsimp only at hSw); go_simp; try with_reducible rfl)
                  simp only [Act.put, List.getElem_toArray, List.getElem_cons_zero, List.getElem_cons_succ, List.setIfInBounds_toArray, List.set_cons_zero, List.set_cons_succ]
                  refine wpAnyH_take (i := 5) (v := ?_) rfl (by kernel_rfl) (by kernel_rfl) (by kernel_rfl) (fun _ _ _ h => h) (Or.inl ⟨by rfl, ?_⟩) (by assumption) ?_
                  rotate_left
                  · (intro w hSw; (try dsimp only at hSw); go_simp; try with_reducible rfl)
                  simp only [Act.put, List.getElem_toArray, List.getElem_cons_zero, List.getElem_cons_succ, List.setIfInBounds_toArray, List.set_cons_zero, List.set_cons_succ]
                  refine wpAnyH_take (i := 6) (v := ?_) rfl (by kernel_rfl) (by kernel_rfl) (by kernel_rfl) (fun _ _ _ h => h) (Or.inl ⟨by rfl, ?_⟩) (by assumption) ?_
                  rotate_left
                  · (intro w hSw; (try dsimp only at hSw); go_simp; try with_reducible rfl)
                  simp only [Act.put, List.getElem_toArray, List.getElem_cons_zero, List.getElem_cons_succ, List.setIfInBounds_toArray, List.set_cons_zero, List.set_cons_succ]
                  refine wpAnyH_take (i := 7) (v := .agg (cellsOf da).toArray) rfl (by kernel_rfl) (by kernel_rfl) (by kernel_rfl) (fun _ _ _ h => h) (yieldsIf_load_mid (by rfl) 24 (.tmp 131) rfl pb (po + a * 32) rfl (cellsOf da) _ (fun _ h => h.2.1) Tryd.underlying24 rfl HIA.out) (by assumption) ?_
                  simp only [Act.put, List.getElem_toArray, List.getElem_cons_zero, List.getElem_cons_succ, List.setIfInBounds_toArray, List.set_cons_zero, List.set_cons_succ]
                  refine wpAnyH_take (i := 8) (v := ?_) rfl (by kernel_rfl) (by kernel_rfl) (by kernel_rfl) (fun _ _ _ h => h) (Or.inl ⟨by rfl, ?_⟩) (by assumption) ?_
                  rotate_left
                  · (intro w hSw; (try dsimp only at hSw); go_simp; try with_reducible rfl)
                  simp only [Act.put, List.getElem_toArray, List.getElem_cons_zero, List.getElem_cons_succ, List.setIfInBounds_toArray, List.set_cons_zero, List.set_cons_succ]
                  refine wpAnyH_done (by kernel_rfl) ?_ _
                  clear hS
                  have HBD : Hid (Below w6.heap.size w6 wr.drew.drew) := Below.drew (Below.drew HBE.out)
                  have HC1 : Hid (cnt da (P.take (b + 1)) = x) := by show _ = _; rw [cnt_succ da P b db HPB.out, hq1, HCX.out.1]; rfl
                  have HC2 : Hid (cnt da (O.take (b + 1)) = y) := by show _ = _; rw [cnt_succ da O b dc HOB.out, hq2, HCX.out.2]; rfl
                  have hL1 := HPL.out
                  clear e1 e2 hg
                  go_wp2_with fail
                  refine ⟨⟨b + 1, x, y, by first | rfl | (push_cast; rfl), by first | rfl | (push_cast; rfl), by first | rfl | (push_cast; rfl), by omega, by omega, by omega, ⟨HC1.out, HC2.out⟩, HBD⟩, ?_⟩
                  simp [intOf]
                  omega
end Go.Proofs.YtaebpnednhkfhaaDoor
