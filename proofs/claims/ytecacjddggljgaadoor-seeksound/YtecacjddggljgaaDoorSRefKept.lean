/-
  What the document's answer marlstoneref02.Kept answers: a contract over this translation.
-/
import Derived.Test.YtecacjddggljgaaDoorSRefOf
import Derived.Test.YtecacjddggljgaaDoorSKeptLaw
namespace Go.Proofs.YtecacjddggljgaaDoor.Sm
open Go.RowKit
def nbit (k : Nat) : UInt8 := UInt8.ofNat (255 - 128 / 2 ^ k)
def clr (d : List UInt8) (L : Nat) : Nat → List UInt8
  | 0 => d
  | i + 1 => if i < L then clr d L i else (clr d L i).set (i / 8) ((clr d L i).getD (i / 8) 0 &&& nbit (i % 8))
theorem clr_length (d : List UInt8) (L : Nat) : ∀ i, (clr d L i).length = d.length
  | 0 => rfl
  | i + 1 => by
    rw [clr]; split
    · exact clr_length d L i
    · rw [List.length_set, clr_length d L i]
theorem nbit_bit : ∀ (m k : Fin 8), nbit m.val &&& bitU k.val = if k.val = m.val then 0 else bitU k.val := by decide +kernel
theorem clr_bit (d : List UInt8) (hd : d.length = 32) (L : Nat) : ∀ i, i ≤ 256 → ∀ j k, j < 32 → k < 8 → (clr d L i).getD j 0 &&& bitU k = if 8 * j + k < i ∧ L ≤ 8 * j + k then 0 else d.getD j 0 &&& bitU k
  | 0, _, j, k, _, _ => by rw [clr, if_neg (by omega)]
  | i + 1, hi, j, k, hj, hk => by
    have ih := clr_bit d hd L i (by omega) j k hj hk
    rw [clr]
    by_cases hL : i < L
    · rw [if_pos hL, ih]
      by_cases hc : 8 * j + k < i ∧ L ≤ 8 * j + k
      · rw [if_pos hc, if_pos (by omega)]
      · rw [if_neg hc, if_neg (by omega)]
    · rw [if_neg hL]
      by_cases hji : j = i / 8
      · subst hji
        rw [List.getD, List.getElem?_set_self (by rw [clr_length]; omega), Option.getD_some, UInt8.and_assoc, nbit_bit ⟨i % 8, by omega⟩ ⟨k, hk⟩]
        simp only
        by_cases hkm : k = i % 8
        · rw [if_pos hkm, if_pos (by omega)]; simp
        · rw [if_neg hkm, ih]
          by_cases hc : 8 * (i / 8) + k < i ∧ L ≤ 8 * (i / 8) + k
          · rw [if_pos hc, if_pos (by omega)]
          · rw [if_neg hc, if_neg (by omega)]
      · rw [List.getD, List.getElem?_set_ne (by omega)]
        have : (clr d L i)[j]?.getD 0 = (clr d L i).getD j 0 := rfl
        rw [this, ih]
        by_cases hc : 8 * j + k < i ∧ L ≤ 8 * j + k
        · rw [if_pos hc, if_pos (by omega)]
        · rw [if_neg hc, if_neg (by omega)]
theorem byte_bits : ∀ x : Fin 256, UInt8.ofNat x.val = (UInt8.ofNat x.val &&& bitU 0) ||| (UInt8.ofNat x.val &&& bitU 1) ||| (UInt8.ofNat x.val &&& bitU 2) ||| (UInt8.ofNat x.val &&& bitU 3) ||| (UInt8.ofNat x.val &&& bitU 4) ||| (UInt8.ofNat x.val &&& bitU 5) ||| (UInt8.ofNat x.val &&& bitU 6) ||| (UInt8.ofNat x.val &&& bitU 7) := by decide +kernel
theorem byte_ext (x y : UInt8) (h : ∀ k, k < 8 → x &&& bitU k = y &&& bitU k) : x = y := by
  have hx := byte_bits ⟨x.toNat, x.toNat_lt⟩
  have hy := byte_bits ⟨y.toNat, y.toNat_lt⟩
  simp only [UInt8.ofNat_toNat] at hx hy
  rw [hx, hy, h 0 (by omega), h 1 (by omega), h 2 (by omega), h 3 (by omega), h 4 (by omega), h 5 (by omega), h 6 (by omega), h 7 (by omega)]
theorem clr_kept (d : List UInt8) (hd : d.length = 32) (L m : Nat) (hm : m = 256) : clr d L m = keptB d L 32 := by
  have hb : ∀ i, i < 256 → (keptB d L 32).getD (i / 8) 0 &&& bitU (i % 8) = if i < L then d.getD (i / 8) 0 &&& bitU (i % 8) else 0 := fun i hi => kept_bit d hd L i hi
  have hl := keptB_length d L 32
  have hc := clr_bit d hd L m (by omega)
  have hcl := clr_length d L m
  generalize keptB d L 32 = kk at *
  generalize clr d L m = cc at *
  apply List.ext_getElem
  · omega
  · intro j h1 h2
    have e1 : cc[j] = cc.getD j 0 := by simp [List.getD, h1]
    have e2 : kk[j] = kk.getD j 0 := by simp [List.getD, h2]
    rw [e1, e2]
    apply byte_ext
    intro k hk
    have hb2 := hb (8 * j + k) (by omega)
    rw [show (8 * j + k) / 8 = j by omega, show (8 * j + k) % 8 = k by omega] at hb2
    rw [hc j k (by omega) hk, hb2]
    by_cases hcc : 8 * j + k < L
    · rw [if_neg (by omega), if_pos hcc]
    · rw [if_pos (by omega), if_neg hcc]
theorem nbit_num (x : UInt8) (k : Nat) : bits .andNot .u8 (x.toNat : Int) ((128 : Int) / 2 ^ k) = ((x &&& nbit k).toNat : Int) := by
  have hp : 128 / 2 ^ k ≤ 128 := Nat.div_le_self _ _
  have e : (128 : Int) / 2 ^ k = ((128 / 2 ^ k : Nat) : Int) := by simp
  rw [e, u8_andNot_nat x.toNat (128 / 2 ^ k) x.toNat_lt (by omega), UInt8.toNat_and, nbit, toNat_ofNat _ (Nat.lt_of_le_of_lt (Nat.sub_le _ _) (by omega))]
set_option maxRecDepth 100000 in
set_option maxHeartbeats 1000000 in
theorem refKept_any (s : ByteArray) (z : Int) (w : World) (hs : s.size ≤ 2000) (hz1 : -9223372036854775808 ≤ z) (hz2 : z ≤ 9223372036854775807) :
    Calls Tryd.prog 124 #[.string s, .int .i64 z] w fun e w' => e = .returned (.agg (cellsOf (keptB (shaB (strB s)) (min (max z 0) 256).toNat 32)).toArray) ∧ Below w.heap.size w w' := by
  obtain ⟨L, HL⟩ : ∃ L : Nat, Hid (L = (min (max z 0) 256).toNat) := ⟨_, rfl⟩
  have hLz : ∀ i : Nat, i < 256 → (i < L ↔ (i : Int) < z) := fun i hi => by rw [HL.out]; omega
  have HLZ : Hid (∀ i : Nat, i < 256 → (i < L ↔ (i : Int) < z)) := hLz
  rw [← HL.out]
  obtain ⟨d, HD⟩ : ∃ d, Hid (d = shaB (strB s)) := ⟨_, rfl⟩
  have hd : d.length = 32 := by rw [HD.out]; exact shaB_length _
  have RO := fun w => refOf_any s w hs
  rw [← HD.out] at RO
  obtain ⟨m, hm⟩ : ∃ m, m = 256 := ⟨_, rfl⟩
  rw [← HD.out, ← clr_kept d hd L m hm]
  have HM : Hid (m = 256) := hm
  clear hm
  have HRO : Hid (_) := RO
  clear RO hLz
  have HD1 : Hid ((cellsOf d).toArray.all (·.oneCell') = true) := all_oneCell_toArray (cellsOf_one _)
  have HDS : Hid ((Tryd.prog.info? 46).map (·.size) = some (cellsOf d).toArray.size) := by show _ = _; rw [size24, List.size_toArray, cellsOf_length, hd]
  go_enter Tryd.func124, Tryd.ntmps124
  go_wp2_with fail
  refine (HRO.out _).mono ?_
  rintro e w1 ⟨rfl, hbel1⟩
  obtain ⟨A, hA, hres⟩ : ∃ A : Array Value, A.size = 32 ∧ w1.heap[w.heap.size]? = some (.cells A 46 (0, 0)) :=
    ⟨_, rfl, (hbel1.block _ (by simp)).trans (heap_alloc_new _ _)⟩
  have hbw1 : Below w.heap.size w w1 := (bel_alloc _ _).trans (hbel1.mono (by simp))
  have hs1 : w.heap.size + 1 ≤ w1.heap.size := by have := hbel1.size; simpa using this
  clear hbel1
  have HZO : Hid ((cellsOf (List.replicate 32 0)).toArray.size = (cellsOf d).toArray.size) := by show _ = _; rw [List.size_toArray, List.size_toArray, cellsOf_length, cellsOf_length, hd]; rfl
  go_wp2_with (refine wpList_store_to rfl 46 (.tmp 5) (.tmp 8) rfl w1.heap.size (cellsOf d).toArray rfl rfl 46 (cellsOf (List.replicate 32 0)).toArray (heap_alloc_new _ _) HDS.out HZO.out HD1.out ?_)
  intro w2 hblk2 hchg2
  have hbel2 : Below w1.heap.size w1 w2 := (bel_alloc _ _).trans (hchg2.below (Nat.le_refl _) (by simp))
  have hs2 : w1.heap.size + 1 ≤ w2.heap.size := by have := hchg2.size; simpa using this
  have HRS : Hid (w2.heap[w.heap.size]? = some (.cells A 46 (0, 0))) := (hbel2.block _ (by omega)).trans hres
  have HBW : Hid (Below w.heap.size w w2) := hbw1.trans (hbel2.mono (by omega))
  have HB2 : Hid (w2.heap[w1.heap.size]? = some (.cells (cellsOf d).toArray 46)) := hblk2
  clear hblk2 hchg2 hbel2 hbw1 hres HD1 HDS HZO
  generalize hdb : w1.heap.size = db at *
  generalize hn : w.heap.size = n at *
  go_wp2_with fail
  go_loopw [6] (fun t wr => ∃ i : Nat, i ≤ 256 ∧ t = .int .i64 i ∧ Chg db w2 wr ∧ wr.heap[db]? = some (.cells (cellsOf (clr d L i)).toArray 46)) (fun t _ => (256 - intOf t).toNat)
  case atStart => exact ⟨0, by omega, rfl, Chg.refl _ _, HB2.out⟩
  case round =>
    clear HB2
    obtain ⟨i, hi, rfl, hchg, hblk⟩ := hrel
    have hs3 := hchg.size
    by_cases hi256 : i < 256
    · have hi256' : (i : Int) < 256 := by omega
      have hlz := HLZ.out i hi256
      by_cases hL : i < L
      · have hz : ¬ (z ≤ (i : Int)) := by omega
        have HC : Hid (clr d L (i + 1) = clr d L i) := by show _ = _; rw [clr, if_pos hL]
        rw [← HC.out] at hblk
        have HBK : Hid (wr.heap[db]? = some (.cells (cellsOf (clr d L (i + 1))).toArray 46)) := hblk
        clear hblk hlz
        go_wp2
        go_roundw
        case rel => exact ⟨i + 1, by omega, by go_num, hchg, HBK.out⟩
        case measure => simp [intOf]; omega
      · have hz : z ≤ (i : Int) := by omega
        have HC := clr.eq_2 d L i
        rw [if_neg hL] at HC
        have hcl := clr_length d L i
        have hcd : wr.cell? ⟨db, i / 8, none⟩ = some (.int .u8 ((clr d L i).getD (i / 8) 0).toNat) := by rw [cell_of_row wr db (i / 8) _ _ _ hblk]; exact cellsOf_getD _ _ (by omega)
        have hfz := frozen_of_row wr db (i / 8) _ _ hblk
        have HNEW := chg_set0 (i / 8) (.int .u8 (((clr d L i).getD (i / 8) 0 &&& nbit (i % 8)).toNat : Int)) hchg hblk
        rw [cells_set, ← HC] at HNEW
        have HN : Hid (_ ∧ _) := HNEW
        have hnum := nbit_num ((clr d L i).getD (i / 8) 0) (i % 8)
        generalize (clr d L i).getD (i / 8) 0 &&& nbit (i % 8) = o at *
        generalize (clr d L i).getD (i / 8) 0 = x at *
        have lx := x.toNat_lt
        have hquo : (i : Int).tdiv 8 = ((i / 8 : Nat) : Int) := by rw [Int.tdiv_eq_ediv_of_nonneg (by omega)]; omega
        have hrem : (i : Int).tmod 8 = ((i % 8 : Nat) : Int) := by rw [Int.tmod_eq_emod_of_nonneg (by omega)]; omega
        have hj32 : ((i / 8 : Nat) : Int) < 32 := by omega
        have hj0 : (0 : Int) ≤ ((i / 8 : Nat) : Int) := by omega
        have hk8 : ((i % 8 : Nat) : Int) < 8 := by omega
        clear hchg hblk HNEW HC hcl hlz
        generalize i / 8 = j at *
        generalize i % 8 = k at *
        go_wp2
        exact ⟨⟨i + 1, by omega, by go_num, HN.out.1, HN.out.2⟩, by simp [intOf]; omega⟩
    · have hi' : ¬ ((i : Int) < 256) := by omega
      have him : i = m := by have := HM.out; omega
      have hres := (hchg.block n (by omega) (by omega)).trans HRS.out
      have hbn : Below n w wr := HBW.out.trans (hchg.below (by omega) (by omega))
      obtain ⟨D, HDD⟩ : ∃ D, Hid (D = (cellsOf (clr d L m)).toArray) := ⟨_, rfl⟩
      have hcs : D.size = 32 := by rw [HDD.out, List.size_toArray, cellsOf_length, clr_length, hd]
      have hone : D.all (·.oneCell') = true := by rw [HDD.out]; exact all_oneCell_toArray (cellsOf_one _)
      rw [him, ← HDD.out] at hblk
      have HH : Hid (wr.heap[db]? = some (.cells D 46 (0, 0))) := hblk
      have HR : Hid (wr.heap[n]? = some (.cells A 46 (0, 0))) := hres
      have HSZ : Hid ((Tryd.prog.info? 46).map (·.size) = some D.size) := by show _ = _; rw [size24, hcs]
      have HAD : Hid (A.size = D.size) := by show _ = _; rw [hA, hcs]
      have HON : Hid (D.all (·.oneCell') = true) := hone
      clear hblk hchg hres hA hcs hone him
      go_wp2_with (first | (refine wpList_load_row rfl 46 (.tmp 5) rfl db rfl 46 D (0, 0) _ HH.out Tryd.underlying46 rfl HSZ.out ?_) | (refine wpList_store_row rfl 46 (.tmp 4) (.tmp 28) rfl n D rfl rfl 46 A HR.out HSZ.out HAD.out HON.out ?_))
      refine bodyPost_ret (results_cell_row rfl _ _ n 46 D (0, 0) _ rfl (setRow_heap _ _ _ _ _ _ HR.out) Tryd.underlying46 rfl HSZ.out) rfl ?_
      exact ⟨by rw [HDD.out], below_setRow hbn (Nat.le_refl _) _⟩
end Go.Proofs.YtecacjddggljgaaDoor.Sm
