/-
  What marlstonelaw02.SumKept answers: a contract over this translation.
-/
import Derived.Test.YtdlkaeegcagkpaaDoorShown
namespace Go.Proofs.YtdlkaeegcagkpaaDoor
open Go.RowKit
def bitU (k : Nat) : UInt8 := UInt8.ofNat (128 / 2 ^ k)
theorem bitU_num (k : Nat) : (bitU k).toNat = 128 / 2 ^ k := toNat_ofNat _ (Nat.lt_of_le_of_lt (Nat.div_le_self _ _) (by omega))
theorem mask_bits : ∀ (l : Fin 9) (k : Fin 8), UInt8.ofNat (255 - 255 / 2 ^ (min l.val 8)) &&& bitU k.val = if k.val < l.val then bitU k.val else 0 := by decide +kernel
theorem mask_bit (c : UInt8) (l k : Nat) (hk : k < 8) : maskB c l &&& bitU k = if k < l then c &&& bitU k else 0 := by
  have h := mask_bits ⟨min l 8, by omega⟩ ⟨k, hk⟩
  simp only [Nat.min_assoc, Nat.min_self] at h
  rw [maskB, UInt8.and_assoc, h]
  by_cases hkl : k < l
  · rw [if_pos (by omega), if_pos hkl]
  · rw [if_neg (by omega), if_neg hkl]; simp
theorem keptB_at (d : List UInt8) (l j : Nat) (hj : j < d.length) : ∀ m, j < m → (keptB d l m).getD j 0 = maskB (d.getD j 0) (l - 8 * j)
  | 0, h => by omega
  | m + 1, h => by
    by_cases hm : j = m
    · subst hm
      rw [keptB, List.getD, List.getElem?_set_self (by rw [keptB_length]; omega)]
      rfl
    · rw [keptB, List.getD, List.getElem?_set_ne (by omega)]
      exact keptB_at d l j hj m (by omega)
theorem kept_bit (d : List UInt8) (hd : d.length = 32) (L i : Nat) (hi : i < 256) : (keptB d L 32).getD (i / 8) 0 &&& bitU (i % 8) = if i < L then d.getD (i / 8) 0 &&& bitU (i % 8) else 0 := by
  rw [keptB_at d L (i / 8) (by omega) 32 (by omega), mask_bit _ _ _ (by omega)]
  by_cases h : i < L
  · rw [if_pos (by omega), if_pos h]
  · rw [if_neg (by omega), if_neg h]
theorem and_num (x y : UInt8) : bits .and .u8 (x.toNat : Int) (y.toNat : Int) = ((x &&& y).toNat : Int) := by
  rw [u8_and_nat _ _ x.toNat_lt y.toNat_lt, UInt8.toNat_and]
theorem and_seven (i : Nat) (hi : i < 256) : bits .and .i64 (i : Int) 7 = ((i % 8 : Nat) : Int) := by
  have : ∀ i : Fin 256, bits .and .i64 ((i.val : Nat) : Int) 7 = ((i.val % 8 : Nat) : Int) := by decide +kernel
  exact this ⟨i, hi⟩
theorem shift_128 (h : Nat) (hh : h < 8) (w : World) : (Op.shift .shr .u8 128 .u64 (h : Int)).run Tryd.prog w = .ok (.int .u8 ((128 / 2 ^ h : Nat) : Int)) w := by
  match h, hh with
  | 0, _ => rfl
  | 1, _ => rfl
  | 2, _ => rfl
  | 3, _ => rfl
  | 4, _ => rfl
  | 5, _ => rfl
  | 6, _ => rfl
  | 7, _ => rfl
set_option maxRecDepth 100000 in
set_option maxHeartbeats 1000000 in
theorem kept_walk (ao : Option Addr) (n cap : Nat) (bs : List UInt8) (z1 z2 : Int) (w : World) (hb : Bytes w ao n bs) (hnc : n ≤ cap) (hcap : cap ≤ 140737488351232) (hK : WW w 0 ks) (h0 : 0 < w.heap.size)
    (ha1 : -9223372036854775808 ≤ z1) (ha2 : z1 ≤ 9223372036854775807) (hb1 : -9223372036854775808 ≤ z2) (hb2 : z2 ≤ 9223372036854775807) :
    Calls Tryd.prog 6 #[.slice ao n cap, .int .i64 z1, .int .i64 z2] w fun e w' => e = .returned (.bool true) ∧ Below w.heap.size w w' := by
  by_cases hz : z2 < z1
  · have hlh : z2 ≤ z1 := by omega
    go_enter Tryd.func6, Tryd.ntmps6
    go_wp2_with fail
    refine (shown_any _ hK h0).mono ?_
    rintro e w1 ⟨rfl, hbel1⟩
    have hs1 := hbel1.size
    have hK1 := hK.below hbel1 h0
    have hby1 := bytes_kept hb hbel1 (Nat.le_refl _)
    clear hK hb
    go_wp2_with fail
    refine (kept_any ao n cap bs z2 w1 hby1 hnc (by omega) hK1 (by omega) (by omega) (by omega)).mono ?_
    rintro e w2 ⟨rfl, hbel2⟩
    have hs2 := hbel2.size
    have hK2 := hK1.below hbel2 (by omega)
    have hby2 := bytes_kept hby1 hbel2 (Nat.le_refl _)
    have hbw2 : Below w.heap.size w w2 := hbel1.trans (hbel2.mono (by omega))
    clear hK1 hby1 hbel1 hbel2
    obtain ⟨L, HL⟩ : ∃ L : Nat, Hid (L = (min (max z2 0) 256).toNat) := ⟨_, rfl⟩
    rw [← HL.out]
    have hkl1 : (keptB (shaB bs) L 32).length = 32 := by rw [keptB_length, shaB_length]
    obtain ⟨x, HX⟩ : ∃ x, Hid (x = keptB (shaB bs) L 32) := ⟨_, rfl⟩
    rw [← HX.out] at hkl1 ⊢
    have hx1 : (cellsOf x).toArray.all (·.oneCell') = true := all_oneCell_toArray (cellsOf_one _)
    go_wp2_with (refine wpList_store_to rfl 25 (.tmp 8) (.tmp 24) rfl w2.heap.size (cellsOf x).toArray rfl rfl 25 (cellsOf (List.replicate 32 0)).toArray ?hz ?hzs ?hzo hx1 ?_)
    case hz => exact heap_alloc_new _ _
    case hzs => rw [size25, List.size_toArray, cellsOf_length, hkl1]
    case hzo => simp [cellsOf, hkl1]
    intro w3 hblkx hchg3
    have hbel3 : Below w2.heap.size w2 w3 := (bel_alloc _ _).trans (hchg3.below (Nat.le_refl _) (by simp))
    have hs3 : w2.heap.size + 1 ≤ w3.heap.size := by have := hchg3.size; simpa using this
    have hK3 := hK2.below hbel3 (by omega)
    have hby3 := bytes_kept hby2 hbel3 (Nat.le_refl _)
    have hbw3 : Below w.heap.size w w3 := hbw2.trans (hbel3.mono (by omega))
    clear hchg3 hbel3 hK2 hby2 hbw2 hx1
    generalize hbx : w2.heap.size = bx at *
    go_wp2_with fail
    refine (kept_any ao n cap bs z1 w3 hby3 hnc (by omega) hK3 (by omega) (by omega) (by omega)).mono ?_
    rintro e w4 ⟨rfl, hbel4⟩
    have hs4 := hbel4.size
    have hK4 := hK3.below hbel4 (by omega)
    have hby4 := bytes_kept hby3 hbel4 (Nat.le_refl _)
    have hbw4 : Below w.heap.size w w4 := hbw3.trans (hbel4.mono (by omega))
    have hblkx4 := (hbel4.block bx (by omega)).trans hblkx
    clear hK3 hby3 hbel4 hbw3 hblkx
    obtain ⟨M, HM⟩ : ∃ M : Nat, Hid (M = (min (max z1 0) 256).toNat) := ⟨_, rfl⟩
    rw [← HM.out]
    have hkl2 : (keptB (shaB bs) M 32).length = 32 := by rw [keptB_length, shaB_length]
    obtain ⟨y, HY⟩ : ∃ y, Hid (y = keptB (shaB bs) M 32) := ⟨_, rfl⟩
    rw [← HY.out] at hkl2 ⊢
    have hy1 : (cellsOf y).toArray.all (·.oneCell') = true := all_oneCell_toArray (cellsOf_one _)
    go_wp2_with (refine wpList_store_to rfl 25 (.tmp 9) (.tmp 27) rfl w4.heap.size (cellsOf y).toArray rfl rfl 25 (cellsOf (List.replicate 32 0)).toArray ?hz ?hzs ?hzo hy1 ?_)
    case hz => exact heap_alloc_new _ _
    case hzs => rw [size25, List.size_toArray, cellsOf_length, hkl2]
    case hzo => simp [cellsOf, hkl2]
    intro w5 hblky hchg5
    have hbel5 : Below w4.heap.size w4 w5 := (bel_alloc _ _).trans (hchg5.below (Nat.le_refl _) (by simp))
    have hs5 : w4.heap.size + 1 ≤ w5.heap.size := by have := hchg5.size; simpa using this
    have hK5 := hK4.below hbel5 (by omega)
    have hby5 := bytes_kept hby4 hbel5 (Nat.le_refl _)
    have hbw5 : Below w.heap.size w w5 := hbw4.trans (hbel5.mono (by omega))
    have hblkx5 := (hbel5.block bx (by omega)).trans hblkx4
    clear hchg5 hbel5 hK4 hby4 hbw4 hy1 hblkx4
    generalize hbyy : w4.heap.size = yb at *
    go_wp2_with fail
    refine (of_any ao n cap bs w5 hby5 hnc (by omega) hK5 (by omega)).mono ?_
    rintro e w6 ⟨rfl, hbel6⟩
    have hs6 := hbel6.size
    have hbw6 : Below w.heap.size w w6 := hbw5.trans (hbel6.mono (by omega))
    have hblkx6 := (hbel6.block bx (by omega)).trans hblkx5
    have hblky6 := (hbel6.block yb (by omega)).trans hblky
    clear hK5 hby5 hbel6 hbw5 hblkx5 hblky
    have hkl3 : (shaB bs).length = 32 := shaB_length _
    obtain ⟨d, HD⟩ : ∃ d, Hid (d = shaB bs) := ⟨_, rfl⟩
    rw [← HD.out] at hkl3 ⊢
    have hd1 : (cellsOf d).toArray.all (·.oneCell') = true := all_oneCell_toArray (cellsOf_one _)
    go_wp2_with (refine wpList_store_to rfl 25 (.tmp 10) (.tmp 29) rfl w6.heap.size (cellsOf d).toArray rfl rfl 25 (cellsOf (List.replicate 32 0)).toArray ?hz ?hzs ?hzo hd1 ?_)
    case hz => exact heap_alloc_new _ _
    case hzs => rw [size25, List.size_toArray, cellsOf_length, hkl3]
    case hzo => simp [cellsOf, hkl3]
    intro w7 hblkd hchg7
    have hbel7 : Below w6.heap.size w6 w7 := (bel_alloc _ _).trans (hchg7.below (Nat.le_refl _) (by simp))
    have hs7 : w6.heap.size + 1 ≤ w7.heap.size := by have := hchg7.size; simpa using this
    have hbw7 : Below w.heap.size w w7 := hbw6.trans (hbel7.mono (by omega))
    have hblkx7 := (hbel7.block bx (by omega)).trans hblkx6
    have hblky7 := (hbel7.block yb (by omega)).trans hblky6
    clear hchg7 hbel7 hbw6 hd1 hblkx6 hblky6
    generalize hbd : w6.heap.size = db at *
    go_wp2_with fail
    go_loop [11] (fun t => ∃ i : Nat, i ≤ 256 ∧ t = .int .i64 i) (fun t => (256 - intOf t).toNat)
    case atStart => exact ⟨0, by omega, rfl⟩
    case round =>
      obtain ⟨i, hi, rfl⟩ := hrel
      by_cases hi256 : i < 256
      · have hxd := kept_bit d hkl3 L i hi256
        have hyd := kept_bit d hkl3 M i hi256
        have hcx : w7.cell? ⟨bx, i / 8, none⟩ = some (.int .u8 (x.getD (i / 8) 0).toNat) := by rw [cell_of_row w7 bx (i / 8) _ _ _ hblkx7]; exact cellsOf_getD _ _ (by omega)
        have hcy : w7.cell? ⟨yb, i / 8, none⟩ = some (.int .u8 (y.getD (i / 8) 0).toNat) := by rw [cell_of_row w7 yb (i / 8) _ _ _ hblky7]; exact cellsOf_getD _ _ (by omega)
        have hcd : w7.cell? ⟨db, i / 8, none⟩ = some (.int .u8 (d.getD (i / 8) 0).toNat) := by rw [cell_of_row w7 db (i / 8) _ _ _ hblkd]; exact cellsOf_getD _ _ (by omega)
        rw [HD.out, ← HX.out, ← HD.out] at hxd
        rw [HD.out, ← HY.out, ← HD.out] at hyd
        have n1 := and_num (x.getD (i / 8) 0) (bitU (i % 8))
        have n2 := and_num (y.getD (i / 8) 0) (bitU (i % 8))
        have n3 := and_num (d.getD (i / 8) 0) (bitU (i % 8))
        rw [hxd] at n1
        rw [hyd] at n2
        clear hxd hyd
        have hLi : i < L ↔ (i : Int) < z2 := by rw [HL.out]; omega
        have hMi : i < M ↔ (i : Int) < z1 := by rw [HM.out]; omega
        have hand := and_seven i hi256
        have hbu : ((bitU (i % 8)).toNat : Int) = (128 : Int) / 2 ^ (i % 8) := by rw [bitU_num]; simp
        rw [hbu] at n1 n2 n3
        have hq : (i : Int).tdiv 8 = ((i / 8 : Nat) : Int) := by rw [Int.tdiv_eq_ediv_of_nonneg (by omega)]; omega
        have hj0 : (0 : Int) ≤ ((i / 8 : Nat) : Int) := by omega
        have hj32 : ((i / 8 : Nat) : Int) < 32 := by omega
        have hk8 : ((i % 8 : Nat) : Int) < 8 := by omega
        clear hbu
        generalize x.getD (i / 8) 0 = xc at *
        generalize y.getD (i / 8) 0 = yc at *
        generalize d.getD (i / 8) 0 = dc at *
        generalize bitU (i % 8) = bu at *
        generalize i % 8 = k at *
        generalize i / 8 = j at *
        have lx := xc.toNat_lt
        have ly := yc.toNat_lt
        have ld := dc.toNat_lt
        clear hblkx7 hblky7 hblkd
        have HI : Hid (i ≤ 256) := hi
        by_cases c1 : (i : Int) < z2
        · have c2 : (i : Int) < z1 := by omega
          rw [if_pos (hLi.2 c1)] at n1
          rw [if_pos (hMi.2 c2)] at n2
          generalize dc &&& bu = o at *
          clear hLi hMi
          go_wp2
          go_round
          case rel => exact ⟨i + 1, by omega, by go_num⟩
          case measure => simp [intOf]; omega
        · rw [if_neg (fun h => c1 (hLi.1 h))] at n1
          rw [show ((0 : UInt8).toNat : Int) = 0 from rfl] at n1
          by_cases c2 : (i : Int) < z1
          · rw [if_pos (hMi.2 c2)] at n2
            generalize dc &&& bu = o at *
            clear hLi hMi
            go_wp2
            go_round
            case rel => exact ⟨i + 1, by omega, by go_num⟩
            case measure => simp [intOf]; omega
          · rw [if_neg (fun h => c2 (hMi.1 h))] at n2
            rw [show ((0 : UInt8).toNat : Int) = 0 from rfl] at n2
            generalize dc &&& bu = o at *
            clear hLi hMi
            go_wp2
            go_round
            case rel => exact ⟨i + 1, by omega, by go_num⟩
            case measure => simp [intOf]; omega
      · have hi' : ¬ ((i : Int) < 256) := by omega
        clear hblkx7 hblky7 hblkd
        go_wp2
        go_ret
        exact ⟨rfl, hbw7⟩
  · have hlh : z1 ≤ z2 := by omega
    go_enter Tryd.func6, Tryd.ntmps6
    go_wp2_with fail
    refine (shown_any _ hK h0).mono ?_
    rintro e w1 ⟨rfl, hbel1⟩
    have hs1 := hbel1.size
    have hK1 := hK.below hbel1 h0
    have hby1 := bytes_kept hb hbel1 (Nat.le_refl _)
    clear hK hb
    go_wp2_with fail
    refine (kept_any ao n cap bs z1 w1 hby1 hnc (by omega) hK1 (by omega) (by omega) (by omega)).mono ?_
    rintro e w2 ⟨rfl, hbel2⟩
    have hs2 := hbel2.size
    have hK2 := hK1.below hbel2 (by omega)
    have hby2 := bytes_kept hby1 hbel2 (Nat.le_refl _)
    have hbw2 : Below w.heap.size w w2 := hbel1.trans (hbel2.mono (by omega))
    clear hK1 hby1 hbel1 hbel2
    obtain ⟨L, HL⟩ : ∃ L : Nat, Hid (L = (min (max z1 0) 256).toNat) := ⟨_, rfl⟩
    rw [← HL.out]
    have hkl1 : (keptB (shaB bs) L 32).length = 32 := by rw [keptB_length, shaB_length]
    obtain ⟨x, HX⟩ : ∃ x, Hid (x = keptB (shaB bs) L 32) := ⟨_, rfl⟩
    rw [← HX.out] at hkl1 ⊢
    have hx1 : (cellsOf x).toArray.all (·.oneCell') = true := all_oneCell_toArray (cellsOf_one _)
    go_wp2_with (refine wpList_store_to rfl 25 (.tmp 8) (.tmp 24) rfl w2.heap.size (cellsOf x).toArray rfl rfl 25 (cellsOf (List.replicate 32 0)).toArray ?hz ?hzs ?hzo hx1 ?_)
    case hz => exact heap_alloc_new _ _
    case hzs => rw [size25, List.size_toArray, cellsOf_length, hkl1]
    case hzo => simp [cellsOf, hkl1]
    intro w3 hblkx hchg3
    have hbel3 : Below w2.heap.size w2 w3 := (bel_alloc _ _).trans (hchg3.below (Nat.le_refl _) (by simp))
    have hs3 : w2.heap.size + 1 ≤ w3.heap.size := by have := hchg3.size; simpa using this
    have hK3 := hK2.below hbel3 (by omega)
    have hby3 := bytes_kept hby2 hbel3 (Nat.le_refl _)
    have hbw3 : Below w.heap.size w w3 := hbw2.trans (hbel3.mono (by omega))
    clear hchg3 hbel3 hK2 hby2 hbw2 hx1
    generalize hbx : w2.heap.size = bx at *
    go_wp2_with fail
    refine (kept_any ao n cap bs z2 w3 hby3 hnc (by omega) hK3 (by omega) (by omega) (by omega)).mono ?_
    rintro e w4 ⟨rfl, hbel4⟩
    have hs4 := hbel4.size
    have hK4 := hK3.below hbel4 (by omega)
    have hby4 := bytes_kept hby3 hbel4 (Nat.le_refl _)
    have hbw4 : Below w.heap.size w w4 := hbw3.trans (hbel4.mono (by omega))
    have hblkx4 := (hbel4.block bx (by omega)).trans hblkx
    clear hK3 hby3 hbel4 hbw3 hblkx
    obtain ⟨M, HM⟩ : ∃ M : Nat, Hid (M = (min (max z2 0) 256).toNat) := ⟨_, rfl⟩
    rw [← HM.out]
    have hkl2 : (keptB (shaB bs) M 32).length = 32 := by rw [keptB_length, shaB_length]
    obtain ⟨y, HY⟩ : ∃ y, Hid (y = keptB (shaB bs) M 32) := ⟨_, rfl⟩
    rw [← HY.out] at hkl2 ⊢
    have hy1 : (cellsOf y).toArray.all (·.oneCell') = true := all_oneCell_toArray (cellsOf_one _)
    go_wp2_with (refine wpList_store_to rfl 25 (.tmp 9) (.tmp 27) rfl w4.heap.size (cellsOf y).toArray rfl rfl 25 (cellsOf (List.replicate 32 0)).toArray ?hz ?hzs ?hzo hy1 ?_)
    case hz => exact heap_alloc_new _ _
    case hzs => rw [size25, List.size_toArray, cellsOf_length, hkl2]
    case hzo => simp [cellsOf, hkl2]
    intro w5 hblky hchg5
    have hbel5 : Below w4.heap.size w4 w5 := (bel_alloc _ _).trans (hchg5.below (Nat.le_refl _) (by simp))
    have hs5 : w4.heap.size + 1 ≤ w5.heap.size := by have := hchg5.size; simpa using this
    have hK5 := hK4.below hbel5 (by omega)
    have hby5 := bytes_kept hby4 hbel5 (Nat.le_refl _)
    have hbw5 : Below w.heap.size w w5 := hbw4.trans (hbel5.mono (by omega))
    have hblkx5 := (hbel5.block bx (by omega)).trans hblkx4
    clear hchg5 hbel5 hK4 hby4 hbw4 hy1 hblkx4
    generalize hbyy : w4.heap.size = yb at *
    go_wp2_with fail
    refine (of_any ao n cap bs w5 hby5 hnc (by omega) hK5 (by omega)).mono ?_
    rintro e w6 ⟨rfl, hbel6⟩
    have hs6 := hbel6.size
    have hbw6 : Below w.heap.size w w6 := hbw5.trans (hbel6.mono (by omega))
    have hblkx6 := (hbel6.block bx (by omega)).trans hblkx5
    have hblky6 := (hbel6.block yb (by omega)).trans hblky
    clear hK5 hby5 hbel6 hbw5 hblkx5 hblky
    have hkl3 : (shaB bs).length = 32 := shaB_length _
    obtain ⟨d, HD⟩ : ∃ d, Hid (d = shaB bs) := ⟨_, rfl⟩
    rw [← HD.out] at hkl3 ⊢
    have hd1 : (cellsOf d).toArray.all (·.oneCell') = true := all_oneCell_toArray (cellsOf_one _)
    go_wp2_with (refine wpList_store_to rfl 25 (.tmp 10) (.tmp 29) rfl w6.heap.size (cellsOf d).toArray rfl rfl 25 (cellsOf (List.replicate 32 0)).toArray ?hz ?hzs ?hzo hd1 ?_)
    case hz => exact heap_alloc_new _ _
    case hzs => rw [size25, List.size_toArray, cellsOf_length, hkl3]
    case hzo => simp [cellsOf, hkl3]
    intro w7 hblkd hchg7
    have hbel7 : Below w6.heap.size w6 w7 := (bel_alloc _ _).trans (hchg7.below (Nat.le_refl _) (by simp))
    have hs7 : w6.heap.size + 1 ≤ w7.heap.size := by have := hchg7.size; simpa using this
    have hbw7 : Below w.heap.size w w7 := hbw6.trans (hbel7.mono (by omega))
    have hblkx7 := (hbel7.block bx (by omega)).trans hblkx6
    have hblky7 := (hbel7.block yb (by omega)).trans hblky6
    clear hchg7 hbel7 hbw6 hd1 hblkx6 hblky6
    generalize hbd : w6.heap.size = db at *
    go_wp2_with fail
    go_loop [11] (fun t => ∃ i : Nat, i ≤ 256 ∧ t = .int .i64 i) (fun t => (256 - intOf t).toNat)
    case atStart => exact ⟨0, by omega, rfl⟩
    case round =>
      obtain ⟨i, hi, rfl⟩ := hrel
      by_cases hi256 : i < 256
      · have hxd := kept_bit d hkl3 L i hi256
        have hyd := kept_bit d hkl3 M i hi256
        have hcx : w7.cell? ⟨bx, i / 8, none⟩ = some (.int .u8 (x.getD (i / 8) 0).toNat) := by rw [cell_of_row w7 bx (i / 8) _ _ _ hblkx7]; exact cellsOf_getD _ _ (by omega)
        have hcy : w7.cell? ⟨yb, i / 8, none⟩ = some (.int .u8 (y.getD (i / 8) 0).toNat) := by rw [cell_of_row w7 yb (i / 8) _ _ _ hblky7]; exact cellsOf_getD _ _ (by omega)
        have hcd : w7.cell? ⟨db, i / 8, none⟩ = some (.int .u8 (d.getD (i / 8) 0).toNat) := by rw [cell_of_row w7 db (i / 8) _ _ _ hblkd]; exact cellsOf_getD _ _ (by omega)
        rw [HD.out, ← HX.out, ← HD.out] at hxd
        rw [HD.out, ← HY.out, ← HD.out] at hyd
        have n1 := and_num (x.getD (i / 8) 0) (bitU (i % 8))
        have n2 := and_num (y.getD (i / 8) 0) (bitU (i % 8))
        have n3 := and_num (d.getD (i / 8) 0) (bitU (i % 8))
        rw [hxd] at n1
        rw [hyd] at n2
        clear hxd hyd
        have hLi : i < L ↔ (i : Int) < z1 := by rw [HL.out]; omega
        have hMi : i < M ↔ (i : Int) < z2 := by rw [HM.out]; omega
        have hand := and_seven i hi256
        have hbu : ((bitU (i % 8)).toNat : Int) = (128 : Int) / 2 ^ (i % 8) := by rw [bitU_num]; simp
        rw [hbu] at n1 n2 n3
        have hq : (i : Int).tdiv 8 = ((i / 8 : Nat) : Int) := by rw [Int.tdiv_eq_ediv_of_nonneg (by omega)]; omega
        have hj0 : (0 : Int) ≤ ((i / 8 : Nat) : Int) := by omega
        have hj32 : ((i / 8 : Nat) : Int) < 32 := by omega
        have hk8 : ((i % 8 : Nat) : Int) < 8 := by omega
        clear hbu
        generalize x.getD (i / 8) 0 = xc at *
        generalize y.getD (i / 8) 0 = yc at *
        generalize d.getD (i / 8) 0 = dc at *
        generalize bitU (i % 8) = bu at *
        generalize i % 8 = k at *
        generalize i / 8 = j at *
        have lx := xc.toNat_lt
        have ly := yc.toNat_lt
        have ld := dc.toNat_lt
        clear hblkx7 hblky7 hblkd
        have HI : Hid (i ≤ 256) := hi
        by_cases c1 : (i : Int) < z1
        · have c2 : (i : Int) < z2 := by omega
          rw [if_pos (hLi.2 c1)] at n1
          rw [if_pos (hMi.2 c2)] at n2
          generalize dc &&& bu = o at *
          clear hLi hMi
          go_wp2
          go_round
          case rel => exact ⟨i + 1, by omega, by go_num⟩
          case measure => simp [intOf]; omega
        · rw [if_neg (fun h => c1 (hLi.1 h))] at n1
          rw [show ((0 : UInt8).toNat : Int) = 0 from rfl] at n1
          by_cases c2 : (i : Int) < z2
          · rw [if_pos (hMi.2 c2)] at n2
            generalize dc &&& bu = o at *
            clear hLi hMi
            go_wp2
            go_round
            case rel => exact ⟨i + 1, by omega, by go_num⟩
            case measure => simp [intOf]; omega
          · rw [if_neg (fun h => c2 (hMi.1 h))] at n2
            rw [show ((0 : UInt8).toNat : Int) = 0 from rfl] at n2
            generalize dc &&& bu = o at *
            clear hLi hMi
            go_wp2
            go_round
            case rel => exact ⟨i + 1, by omega, by go_num⟩
            case measure => simp [intOf]; omega
      · have hi' : ¬ ((i : Int) < 256) := by omega
        clear hblkx7 hblky7 hblkd
        go_wp2
        go_ret
        exact ⟨rfl, hbw7⟩
end Go.Proofs.YtdlkaeegcagkpaaDoor
