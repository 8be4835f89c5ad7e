/-
  What sum.Kept answers, whatever the capacity: a contract over this translation.
-/
import Derived.Test.YtiimmknnlciljaaDoorSPieceLaws
namespace Go.Proofs.YtiimmknnlciljaaDoor.Sm
open Go.RowKit
set_option maxRecDepth 100000 in
set_option maxHeartbeats 1000000 in
theorem kept_cap (ao : Option Addr) (n cap : Nat) (bs : List UInt8) (z : Int) (w : World) (hb : Bytes w ao n bs) (hnc : n ≤ cap) (hcap : cap ≤ 9223372036854775807) (hn7 : n ≤ 9223372036854774000) (hK : WW w 0 ks) (h0 : 0 < w.heap.size) (hz1 : -9223372036854775808 ≤ z) (hz2 : z ≤ 9223372036854775807) :
    Calls Tryd.prog 27 #[.slice ao n cap, .int .i64 z] w fun e w' => e = .returned (.agg (cellsOf (keptB (shaB bs) (min (max z 0) 256).toNat 32)).toArray) ∧ Below w.heap.size w w' := by
  obtain ⟨L, HL⟩ : ∃ L : Nat, Hid (L = (min (max z 0) 256).toNat) := ⟨_, rfl⟩
  have hL : min (max z 0) 256 = (L : Int) := by rw [HL.out]; omega
  have hL256 : L ≤ 256 := by omega
  rw [← HL.out]
  obtain ⟨d0, HD0⟩ : ∃ d0, Hid (d0 = shaB bs) := ⟨_, rfl⟩
  have hd0 : d0.length = 32 := by rw [HD0.out]; exact shaB_length _
  rw [← HD0.out]
  go_enter Tryd.func27, Tryd.ntmps27
  go_wp2_with fail
  refine (of_cap ao n cap bs _ (bytes_kept hb (bel_alloc _ _) (Nat.le_refl _)) hnc hcap hn7 (hK.below (bel_alloc _ _) h0) (by first | (simp; done) | (simp; omega))).mono ?_
  rintro e w1 ⟨rfl, hbel1⟩
  rw [← HD0.out]
  have hD1 : (cellsOf d0).toArray.all (·.oneCell') = true := all_oneCell_toArray (cellsOf_one _)
  have hbel1' : Below w.heap.size w w1 := (bel_alloc _ _).trans (hbel1.mono (by simp))
  obtain ⟨A, hA, hres⟩ : ∃ A : Array Value, A.size = 32 ∧ w1.heap[w.heap.size]? = some (.cells A 32 (0, 0)) :=
    ⟨_, rfl, (hbel1.block _ (by simp)).trans (heap_alloc_new _ _)⟩
  have hs1 : w.heap.size + 1 ≤ w1.heap.size := by have := hbel1.size; simpa using this
  clear hb hK hbel1
  go_wp2_with (refine wpList_store_to rfl 32 (.tmp 5) (.tmp 10) rfl w1.heap.size (cellsOf d0).toArray rfl rfl 32 (cellsOf (List.replicate 32 0)).toArray ?hz ?hzs ?hzo hD1 ?_)
  case hz => exact heap_alloc_new _ _
  case hzs => rw [size24, List.size_toArray, cellsOf_length, hd0]
  case hzo => simp [cellsOf, hd0]
  intro w2 hblk2 hchg2
  have hs2 : w1.heap.size + 1 ≤ w2.heap.size := by have := hchg2.size; simpa using this
  have hbel2 : Below w1.heap.size w1 w2 := (bel_alloc _ _).trans (hchg2.below (Nat.le_refl _) (by simp))
  have hres2 := (hbel2.block w.heap.size (by omega)).trans hres
  have hbelw2 : Below w.heap.size w w2 := hbel1'.trans (hbel2.mono (by omega))
  clear hchg2 hres hbel1' hbel2 hD1 HL
  generalize hd : w1.heap.size = d at *
  generalize hn : w.heap.size = r at *
  go_wp2_with fail
  go_loopw [6, 14] (fun l t wr => ∃ i : Nat, i ≤ 32 ∧ t = .int .i64 i ∧ l = .int .i64 ((L - 8 * i : Nat) : Int) ∧ Below d w2 wr ∧ wr.heap[d]? = some (.cells (cellsOf (keptB d0 L i)).toArray 32)) (fun _ t _ => (32 - intOf t).toNat)
  case atStart => exact ⟨0, by omega, rfl, by simp, Below.refl _ _, hblk2⟩
  case round =>
    obtain ⟨i, hi, rfl, rfl, hb, hwr⟩ := hrel
    by_cases hi32 : i < 32
    · obtain ⟨l, hl⟩ : ∃ l, L - 8 * i = l := ⟨_, rfl⟩
      obtain ⟨h, hh⟩ : ∃ h, h = min l 8 := ⟨_, rfl⟩
      rw [hl]
      have hmin : min (l : Int) 8 = (h : Int) := by omega
      have hh8 : h ≤ 8 := by omega
      have hlen : (keptB d0 L i).length = 32 := by rw [keptB_length, hd0]
      have hcell : wr.cell? ⟨d, i, none⟩ = some (.int .u8 ((keptB d0 L i).getD i 0).toNat) := by rw [cell_of_row wr d i _ _ _ hwr]; exact cellsOf_getD _ _ (by omega)
      have hfz := frozen_of_row wr d i _ _ hwr
      rw [keptB_later d0 L i i (Nat.le_refl _)] at hcell
      have HNEW : Hid ((cellsOf (keptB d0 L i)).toArray.setIfInBounds i (.int .u8 (maskB (d0.getD i 0) h).toNat) = (cellsOf (keptB d0 L (i + 1))).toArray) := by
        show _ = _
        rw [List.setIfInBounds_toArray, keptB, hl]
        have : maskB (d0.getD i 0) l = maskB (d0.getD i 0) h := by rw [hh]; simp [maskB]
        rw [this]
        simp [cellsOf, List.map_set]
      have HMASK : Hid (bits .andNot .u8 ((d0.getD i 0).toNat : Int) ((255 : Int) / 2 ^ h) = ((maskB (d0.getD i 0) h).toNat : Int)) := by
        show _ = _
        rw [← mask_num (d0.getD i 0) h hh8]; simp
      generalize d0.getD i 0 = c at *
      have hcl := c.toNat_lt
      have hsh := shift_255 h hh8
      have HHH : Hid (h = min l 8) := hh
      have hlh : (h : Int) ≤ (l : Int) := by omega
      have hl256 : (l : Int) ≤ 256 := by omega
      have e1 : (i : Int) < 32 := by omega
      have e0 : (0 : Int) ≤ (i : Int) := by omega
      have HLL : Hid (L - 8 * i = l) := hl
      clear hh hl
      go_wp2_with fail
      go_region
      rw [HMASK.out]
      obtain ⟨hb3, hwr3⟩ := set_word (Nat.le_refl _) hb hwr HNEW.out
      generalize (wr.setCell _ _).drew = w3 at *
      clear hb hwr hcell hfz hsh HNEW HMASK hmin
      go_wp2
      go_roundw
      case rel => exact ⟨i + 1, by omega, by go_num, by have := HLL.out; have := HHH.out; first | (congr 1; omega) | (rw [show (l : Int) - (h : Int) = ((L - 8 * (i + 1) : Nat) : Int) by omega]), hb3, hwr3⟩
      case measure => simp [intOf]; omega
    · have hi' : i = 32 := by omega
      have hres5 := (hb.block r (by omega)).trans hres2
      have hbn : Below r w wr := hbelw2.trans (hb.mono (by omega))
      obtain ⟨D, HD⟩ : ∃ D, Hid (D = (cellsOf (keptB d0 L i)).toArray) := ⟨_, rfl⟩
      have hcs : D.size = 32 := by rw [HD.out, List.size_toArray, cellsOf_length, keptB_length, hd0]
      have hone : D.all (·.oneCell') = true := by rw [HD.out]; exact all_oneCell_toArray (cellsOf_one _)
      rw [← HD.out] at hwr
      have HD2 : Hid (D = (cellsOf (keptB d0 L 32)).toArray) := by show _ = _; rw [HD.out, hi']
      clear hblk2 hres2 hb hbelw2 HD
      go_wp2_with (first | (refine wpList_load_row rfl 32 (.tmp 5) rfl d rfl 32 D (0, 0) _ hwr Tryd.underlying32 rfl ?hs ?_) | (refine wpList_store_row rfl 32 (.tmp 4) (.tmp 30) rfl r D rfl rfl 32 A hres5 ?hs2 ?ho hone ?_))
      case hs => rw [size24, hcs]
      case hs2 => rw [size24, hcs]
      case ho => rw [hA, hcs]
      refine bodyPost_ret (results_cell_row rfl _ _ r 32 D (0, 0) _ rfl (setRow_heap _ _ _ _ _ _ hres5) Tryd.underlying32 rfl (by rw [size24, hcs])) rfl ?_
      exact ⟨by rw [HD2.out], by rw [hn]; exact below_setRow hbn (Nat.le_refl _) _⟩
end Go.Proofs.YtiimmknnlciljaaDoor.Sm
