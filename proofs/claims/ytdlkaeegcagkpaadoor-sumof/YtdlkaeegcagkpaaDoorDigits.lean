/-
  What marlstonelaw02.value and marlstonelaw02.SumDigits answer: contracts over this translation.
-/
import Derived.Test.YtdlkaeegcagkpaaDoorShown
namespace Go.Proofs.YtdlkaeegcagkpaaDoor
open Go.RowKit
theorem hexd_num (q : Nat) (hq : q < 16) : (hexd q).toNat = if q < 10 then 48 + q else 87 + q := by
  unfold hexd; split <;> rw [toNat_ofNat _ (by omega)]
theorem value_any (q c : Nat) (hq : q < 16) (hc : c = if q < 10 then 48 + q else 87 + q) (w : World) :
    Calls Tryd.prog 21 #[.int .u8 c] w fun e w' => e = .returned (.int .u8 q) ∧ w' = w := by
  by_cases h10 : q < 10
  · rw [if_pos h10] at hc
    have h1 : (48 : Int) ≤ (c : Int) := by omega
    have h2 : (c : Int) ≤ 57 := by omega
    have HC : Hid (c = 48 + q) := hc
    clear hc
    go_enter Tryd.func21, Tryd.ntmps21
    go_wp2
    go_ret
    exact ⟨by have := HC.out; go_num, rfl⟩
  · rw [if_neg h10] at hc
    have h1 : ¬ ((c : Int) ≤ 57) := by omega
    have h2 : (97 : Int) ≤ (c : Int) := by omega
    have h3 : (c : Int) ≤ 102 := by omega
    have h4 : (48 : Int) ≤ (c : Int) := by omega
    have HC : Hid (c = 87 + q) := hc
    clear hc
    go_enter Tryd.func21, Tryd.ntmps21
    go_wp2
    go_ret
    exact ⟨by have := HC.out; go_num, rfl⟩
theorem hexB_at (d : List UInt8) : ∀ (i : Nat) (c : UInt8), d[i]? = some c → (hexB d)[2 * i]? = some (hexd (c.toNat / 16)) ∧ (hexB d)[2 * i + 1]? = some (hexd (c.toNat % 16)) := by
  induction d with
  | nil => intro i c h; simp at h
  | cons a t ih =>
    intro i c h
    have e : hexB (a :: t) = hexd (a.toNat / 16) :: hexd (a.toNat % 16) :: hexB t := rfl
    cases i with
    | zero => simp at h; subst h; rw [e]; simp
    | succ i =>
      have := ih i c (by simpa using h)
      rw [e, show 2 * (i + 1) = 2 * i + 1 + 1 by omega]
      simpa using this
theorem run_index_str (s : ByteArray) (k : Nat) (c : UInt8) (z : Int) (hz : z = (k : Int)) (h : s.data.toList[k]? = some c) (w : World) : (Instr.index 9 (.string s) (.int .i64 z)).run Tryd.prog w = .ok (.int .u8 (c.toNat : Int)) w := by
  subst hz
  obtain ⟨hk, hc⟩ := List.getElem?_eq_some_iff.1 h
  have hk' : k < s.size := by simpa using hk
  have hs : s[k] = c := by rw [← hc]; rfl
  have e1 : (0 : Int) ≤ (k : Int) ∧ (k : Int) < (s.size : Int) := by omega
  have e2 : k < s.size := hk'
  unfold Instr.index
  simp [Sem.run_bind, asIntOf, run_underlying Tryd.underlying9 w, e2, hs]
set_option maxRecDepth 100000 in
set_option maxHeartbeats 1000000 in
theorem digits_walk (d : List UInt8) (w : World) (hd : d.length = 32) (hK : WW w 0 ks) (h0 : 0 < w.heap.size) :
    Calls Tryd.prog 8 #[.agg (cellsOf d).toArray] w fun e w' => e = .returned (.bool true) ∧ Below w.heap.size w w' := by
  have hds : (cellsOf d).toArray.size = 32 := by rw [List.size_toArray, cellsOf_length, hd]
  obtain ⟨S, HS⟩ : ∃ S : ByteArray, Hid (S = ⟨(hexB d).toArray⟩) := ⟨_, rfl⟩
  have hSs : S.size = 64 := by rw [HS.out]; show (hexB d).toArray.size = 64; rw [List.size_toArray, hexB_length, hd]
  go_enter Tryd.func8, Tryd.ntmps8
  go_wp2_with fail
  refine (shown_any _ (hK.below (bel_alloc _ _) h0) (by simp)).mono ?_
  rintro e w1 ⟨rfl, hb1⟩
  have hblk1 : w1.heap[w.heap.size]? = some (.cells (cellsOf d).toArray 25) := (hb1.block _ (by simp)).trans (heap_alloc_new _ _)
  have hbw1 : Below w.heap.size w w1 := (bel_alloc _ _).trans (hb1.mono (by simp))
  have hs1 : w.heap.size + 1 ≤ w1.heap.size := by have := hb1.size; simpa using this
  clear hb1 hK
  generalize hn : w.heap.size = n at *
  go_wp2_with (refine wpList_load_row rfl 25 (.tmp 1) rfl n rfl 25 (cellsOf d).toArray (0, 0) _ hblk1 Tryd.underlying25 rfl ?hl ?_)
  case hl => rw [size25, hds]
  refine (hex_any d w1 hd).mono ?_
  rintro e w2 ⟨rfl, hb2⟩
  rw [← HS.out]
  have hblk2 := (hb2.block n (by omega)).trans hblk1
  have hbw2 : Below n w w2 := hbw1.trans (hb2.mono (by omega))
  clear hblk1 hb2 hbw1 hds
  go_wp2_with fail
  go_loop [5] (fun t => ∃ i : Nat, i ≤ 32 ∧ t = .int .i64 i) (fun t => (32 - intOf t).toNat)
  case atStart => exact ⟨0, by omega, rfl⟩
  case round =>
    obtain ⟨i, hi, rfl⟩ := hrel
    by_cases hi32 : i < 32
    · obtain ⟨c, hx⟩ : ∃ c, d[i]? = some c := ⟨d[i]'(by omega), by simp⟩
      have hcl := c.toNat_lt
      obtain ⟨x0, x1⟩ := hexB_at d i c hx
      have i0 : ∀ w, (Instr.index 9 (.string S) (.int .i64 (2 * (i : Int)))).run Tryd.prog w = .ok (.int .u8 ((hexd (c.toNat / 16)).toNat : Int)) w := run_index_str S (2 * i) _ _ (by omega) (by rw [HS.out]; simpa using x0)
      have i1 : ∀ w, (Instr.index 9 (.string S) (.int .i64 (2 * (i : Int) + 1))).run Tryd.prog w = .ok (.int .u8 ((hexd (c.toNat % 16)).toNat : Int)) w := run_index_str S (2 * i + 1) _ _ (by omega) (by rw [HS.out]; simpa using x1)
      have hcell : w2.cell? ⟨n, i, none⟩ = some (.int .u8 c.toNat) := by
        rw [cell_of_row w2 n i _ _ _ hblk2]; simp [cellsOf, hx]
      have e0 : (0 : Int) ≤ (i : Int) := by omega
      have e1 : (i : Int) < 32 := by omega
      obtain ⟨q0, hq0⟩ : ∃ q, c.toNat / 16 = q := ⟨_, rfl⟩
      obtain ⟨q1, hq1⟩ : ∃ q, c.toNat % 16 = q := ⟨_, rfl⟩
      rw [hq0] at i0
      rw [hq1] at i1
      have HQ0 : Hid (c.toNat / 16 = q0) := hq0
      have HQ1 : Hid (c.toNat % 16 = q1) := hq1
      have hc2 : (c.toNat : Int) = 16 * (q0 : Int) + (q1 : Int) := by omega
      have l0 : (q0 : Int) ≤ 15 := by omega
      have l1 : (q1 : Int) ≤ 15 := by omega
      rw [hc2] at hcell
      clear hq0 hq1 hx x0 x1 hc2
      go_wp2_with fail
      refine (value_any q0 _ (by omega) (hexd_num q0 (by omega)) _).mono ?_
      rintro e w' ⟨rfl, rfl⟩
      go_wp2_with fail
      refine (value_any q1 _ (by omega) (hexd_num q1 (by omega)) _).mono ?_
      rintro e w' ⟨rfl, rfl⟩
      clear i0 i1
      go_wp2
      go_round
      case rel => exact ⟨i + 1, by omega, by go_num⟩
      case measure => simp [intOf]; omega
    · have hi' : ¬ ((i : Int) < 32) := by omega
      clear hblk2
      go_wp2
      go_ret
      exact ⟨rfl, hbw2⟩
end Go.Proofs.YtdlkaeegcagkpaaDoor
