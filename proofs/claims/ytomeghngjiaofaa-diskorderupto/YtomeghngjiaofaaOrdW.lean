/-
  DiskOrder, its walk.
-/
import Derived.Test.YtomeghngjiaofaaOrdM
import Derived.Deep.CutBlock
import Derived.Deep.DeepCutAuto
import Derived.Deep.RegionHeld3
namespace Go.Proofs.Ytomeghngjiaofaa
open Go.RowKit
def IntsAt (w : World) (b off : Nat) (l : List Int) : Prop := ∀ i z, l[i]? = some z → w.cell? ⟨b, off + i, none⟩ = some (.int .i64 z)
theorem and3 (n : Int) : bits .and .i64 n 3 = n % 4 := by
  have hm : (BitVec.ofInt 64 3).toNat = 2 ^ 2 - 1 := by decide
  have key : (BitVec.ofInt 64 n &&& BitVec.ofInt 64 3).toNat = (n % ((2 ^ 64 : Nat) : Int)).toNat % 2 ^ 2 := by
    rw [BitVec.toNat_and, BitVec.toNat_ofInt, hm, Nat.and_two_pow_sub_one_eq_mod]
  show IntKind.i64.wrap ((BitVec.ofInt 64 n &&& BitVec.ofInt 64 3).toNat : Nat) = n % 4
  rw [key, IntKind.wrap_i64]
  omega
def namC : Array Value := #[.string ⟨#[119]⟩, .string ⟨#[120]⟩, .string ⟨#[121]⟩, .string ⟨#[122]⟩]
theorem namC_at (k : Nat) (h : k < 4) : namC[k]? = some (.string (nmK k)) := by
  match k, h with
  | 0, _ => rfl
  | 1, _ => rfl
  | 2, _ => rfl
  | 3, _ => rfl
def wanC (l : Nat → List UInt8) : Array Value := #[.string (bS (l 0)), .string (bS (l 1)), .string (bS (l 2)), .string (bS (l 3))]
theorem wanC_at (l : Nat → List UInt8) (k : Nat) (h : k < 4) : (wanC l)[k]? = some (.string (bS (l k))) := by
  match k, h with
  | 0, _ => rfl
  | 1, _ => rfl
  | 2, _ => rfl
  | 3, _ => rfl
theorem wanC_set (l : Nat → List UInt8) (k : Nat) (b : List UInt8) (h : k < 4) : (wanC l).setIfInBounds k (.string (bS (l k ++ b))) = wanC (fun j => l j ++ (if k = j then b else [])) := by
  match k, h with
  | 0, _ => simp [wanC]
  | 1, _ => simp [wanC]
  | 2, _ => simp [wanC]
  | 3, _ => simp [wanC]
def sumN (ps : List SV) (i : Nat) : Nat := ((ps.take i).map fun p => p.n).sum
theorem sumN_succ (ps : List SV) (i : Nat) (p : SV) (h : ps[i]? = some p) : sumN ps (i + 1) = sumN ps i + p.n := by
  unfold sumN
  rw [List.take_add_one, h]
  simp
theorem sumN_le (ps : List SV) : ∀ i, sumN ps i ≤ (ps.map fun p => p.n).sum := by
  intro i
  unfold sumN
  conv => rhs; rw [← List.take_append_drop i ps]
  rw [List.map_append, List.sum_append]
  omega
structure OI (w1 : World) (g nb k0 : Nat) (ps : List SV) (keep : Int) (i : Nat) (qs : List (Nat × List UInt8)) (wr : World) : Prop where
  disk : DiskAt (fun k => w1.heap.size ≤ k ∧ k ≠ nb ∧ k ≠ k0) wr g (oD (bodyF qs) (pcsF qs)) (4 + i)
  arr : wr.heap[k0]? = some (.cells (wanC (wantF qs keep)) 53 (0, 0))
  nam : wr.heap[nb]? = some (.cells namC 9 (0, 0))
  bel : Below w1.heap.size w1 wr
  ids : ∀ q ∈ qs, q.1 < 4
  sum : sumF qs = sumN ps i
theorem OI.used {w1 : World} {g nb k0 : Nat} {ps : List SV} {keep : Int} {i : Nat} {qs : List (Nat × List UInt8)} {wr : World} (h : OI w1 g nb k0 ps keep i qs wr) : usedL (oD (bodyF qs) (pcsF qs)).L = sumF qs := by
  rw [used4]; exact or4 qs h.ids
theorem OI.drewN {w1 : World} {g nb k0 : Nat} {ps : List SV} {keep : Int} {i : Nat} {qs : List (Nat × List UInt8)} {wr : World} (h : OI w1 g nb k0 ps keep i qs wr) (q : Nat) : OI w1 g nb k0 ps keep i qs (wr.drewN q) :=
  ⟨h.disk.keep (fun _ _ _ => by rw [heap_drewN]), by rw [heap_drewN]; exact h.arr, by rw [heap_drewN]; exact h.nam, bel_drewN h.bel q, h.ids, h.sum⟩
theorem roomB (qs : List (Nat × List UInt8)) : ∀ (r : Int), -9223372036854775808 ≤ r ∧ r ≤ 9223372036854775807 → -9223372036854775808 ≤ roomF qs r ∧ roomF qs r ≤ 9223372036854775807 := by
  induction qs with
  | nil => intro r h; exact h
  | cons q qs ih =>
    intro r h
    refine ih _ ?_
    have : (keepI r q.2.length : Int) ≤ max r 0 := by unfold keepI; omega
    omega
set_option maxRecDepth 100000 in
set_option maxHeartbeats 4000000 in
theorem order_walk (ao1 : Option Addr) (n1 c1 b off : Nat) (ps : List SV) (ao2 : Option Addr) (n2 c2 b2 off2 : Nat) (zs : List Int) (keep : Int) (w : World)
    (hP : PartsAt w b off ps) (hl1 : ps.length = n1) (ha1 : 0 < n1 → ao1 = some ⟨b, off, none⟩) (hT : IntsAt w b2 off2 zs) (hl2 : zs.length = n2) (ha2 : 0 < n2 → ao2 = some ⟨b2, off2, none⟩) (hsz : (ps.map fun p => p.n).sum ≤ 1048576) (hkp : -9223372036854775808 ≤ keep ∧ keep ≤ 9223372036854775807) :
    Calls Try.prog 5 #[.slice ao1 n1 c1, .slice ao2 n2 c2, .int .i64 keep] w fun e w' => e = .returned (.bool true) ∧ Below w.heap.size w w' := by
  have HP : Hid (PartsAt w b off ps) := hP
  have HT : Hid (IntsAt w b2 off2 zs) := hT
  have HL1 : Hid (ps.length = n1) := hl1
  have HL2 : Hid (zs.length = n2) := hl2
  have HA1 : Hid (0 < n1 → ao1 = some ⟨b, off, none⟩) := ha1
  have HA2 : Hid (0 < n2 → ao2 = some ⟨b2, off2, none⟩) := ha2
  have HSZ : Hid ((ps.map fun p => p.n).sum ≤ 1048576) := hsz
  have HKP : Hid (-9223372036854775808 ≤ keep ∧ keep ≤ 9223372036854775807) := hkp
  clear hP hT hl1 hl2 ha1 ha2 hsz hkp
  go_enter Try.func5, Try.ntmps5
  go_wp2_with fail
  refine (shown_any w).mono ?_
  rintro e w1 ⟨rfl, hb1⟩
  have HB1 : Hid (Below w.heap.size w w1) := hb1
  clear hb1
  go_wp2_with fail
  refine (new_at 1099511627776 big w1 (by rfl) (by decide)).mono ?_
  rintro e w2 ⟨g, rfl, hBg, hd2, hb2⟩
  have HB2 : Hid (Below w1.heap.size w1 w2) := hb2
  obtain ⟨nb, HNB⟩ : ∃ nb, Hid (w2.heap.size = nb) := ⟨_, rfl⟩
  have HD3 : Hid (DiskAt (fun k => w1.heap.size ≤ k ∧ k ≠ nb) (w2.alloc (.cells namC 9)) g (oN 0) 0) := (hd2.now.grown (bel_alloc _ _)).mono (fun k _ e => ⟨e.1, fun q => by have h1 := e.2; have h2 := HNB.out; omega⟩) (Nat.le_refl _)
  have HN3 : Hid ((w2.alloc (.cells namC 9)).heap[nb]? = some (.cells namC 9 (0, 0))) := by rw [← HNB.out]; exact heap_alloc_new w2 _
  have HB3 : Hid (Below w1.heap.size w1 (w2.alloc (.cells namC 9))) := HB2.out.alloc HB2.out.size _
  clear hd2 hb2 hBg
  go_upto_block 0 with fail
  rw [HNB.out]
  go_cut [10] (fun _ wx => ∃ wy, Hid (DiskAt (fun k => w1.heap.size ≤ k ∧ k ≠ nb) wy g (oN 4) 4) ∧ Hid (wy.heap[nb]? = some (.cells namC 9 (0, 0))) ∧ Hid (Below w1.heap.size w1 wy) ∧ wy = wx)
  case first =>
    as_aux_lemma =>
      go_wp2_with fail
      go_loopw [10] (fun v10 wr => ∃ i : Nat, v10 = .int .i64 i ∧ Hid (i ≤ 4) ∧ Hid (DiskAt (fun k => w1.heap.size ≤ k ∧ k ≠ nb) wr g (oN i) i) ∧ Hid (wr.heap[nb]? = some (.cells namC 9 (0, 0))) ∧ Hid (Below w1.heap.size w1 wr)) (fun v10 _ => 4 - (intOf v10).toNat)
      case atStart => exact ⟨0, rfl, Nat.zero_le 4, HD3, HN3, HB3⟩
      case round =>
        obtain ⟨i, rfl, HI4, HD, HN, HB⟩ := hrel
        by_cases hi : i < 4
        · have hi' : (i : Int) < 4 := by omega
          have hi0 : (0 : Int) ≤ (i : Int) := Int.natCast_nonneg _
          have hcn : wr.cell? ⟨nb, i, none⟩ = some (.string (nmK i)) := by rw [cell_of_row _ _ _ _ _ _ HN.out]; exact namC_at i hi
          have hc := create_at HD.out (by omega) (nmK i) (nmK_size i hi)
          rw [or1 i hi] at hc
          have HC : Hid _ := hc
          have HIL : Hid (i < 4) := hi
          have HINC : Hid (wrap64 ((i : Int) + 1) = ((i + 1 : Nat) : Int)) := winc (by omega)
          clear hc hi
          go_wp2_with fail
          refine Calls.mono HC.out ?_
          rintro e w5 ⟨rfl, hd, ho⟩
          have hnl := heap_lt HN.out
          have HD5 : Hid (DiskAt (fun k => w1.heap.size ≤ k ∧ k ≠ nb) w5 g (oN (i + 1)) (i + 1)) := hd.back1 (fun k e => ⟨Nat.le_trans HB.out.size e, by omega⟩)
          have HN5 : Hid (w5.heap[nb]? = some (.cells namC 9 (0, 0))) := (ho.block nb hnl (fun e => e.2 rfl)).trans HN.out
          have HB5 : Hid (Below w1.heap.size w1 w5) := HB.out.trans (ho.below (fun _ e => e.1) HB.out.size)
          clear hd ho hnl HC hcn HD HN HB
          have hinc := HINC.out
          go_wp2_with fail
          go_roundw
          case rel => exact ⟨i + 1, by first | rfl | rw [hinc], HIL.out, HD5, HN5, HB5⟩
          case measure => first | exact meas_up HIL.out | (rw [hinc]; exact meas_up HIL.out)
        · have hi' : ¬ (i : Int) < 4 := by omega
          have hi4 : i = 4 := by have := HI4.out; omega
          subst hi4
          clear hi
          go_wp2_with fail
          go_meet
          case rel => exact ⟨_, HD, HN, HB, rfl⟩
  case rest =>
    obtain ⟨w4, HD4, HN4, HB4, rfl⟩ := hcut
    obtain ⟨k0, HK0⟩ : ∃ k0, Hid (w4.heap.size = k0) := ⟨_, rfl⟩
    have HI0 : Hid (OI w1 g nb k0 ps keep 0 [] (w4.alloc (.cells (wanC (fun _ => [])) 53))) := by
      refine ⟨(HD4.out.now.grown (bel_alloc _ _)).mono (fun k _ e => ⟨e.1.1, e.1.2, fun q => by have h1 := e.2; have h2 := HK0.out; omega⟩) (Nat.le_refl _), ?_, ?_, HB4.out.alloc HB4.out.size _, (fun q hq => by cases hq), rfl⟩
      · rw [← HK0.out]; exact heap_alloc_new w4 _
      · rw [Below.heap_alloc _ _ _ (heap_lt HN4.out)]; exact HN4.out
    have HK1 : Hid (w1.heap.size ≤ k0) := by rw [← HK0.out]; exact HB4.out.size
    clear HD3 HN3 HB3 HD4 HN4 HB4 HB2
    go_upto_block 2 with fail
    rw [HK0.out]
    go_cut [12, 13, 14, 15] (fun _ _ _ _ wx => ∃ (i : Nat) (qs : List (Nat × List UInt8)) (wy : World), Hid (i ≤ 50) ∧ Hid (OI w1 g nb k0 ps keep i qs wy) ∧ wy = wx)
    case first =>
      as_aux_lemma =>
        go_wp2_with fail
        go_loopw [12, 13, 14, 15] (fun v12 v13 _ _ wr => ∃ (i : Nat) (qs : List (Nat × List UInt8)) (room : Int), v13 = .int .i64 i ∧ Hid (i ≤ 50) ∧ v12 = .int .i64 room ∧ Hid (roomF qs keep = room) ∧ Hid (OI w1 g nb k0 ps keep i qs wr)) (fun _ v13 _ _ _ => 50 - (intOf v13).toNat)
        case atStart => exact ⟨0, [], keep, rfl, Nat.zero_le 50, rfl, rfl, HI0⟩
        case round =>
          obtain ⟨i, qs, room, rfl, HI50, rfl, HRM, HI⟩ := hrel
          clear HI0
          by_cases hall : i < n1 ∧ i < n2 ∧ i < 50
          · obtain ⟨hi1, hi2, hi3⟩ := hall
            obtain ⟨p, hp⟩ : ∃ p, ps[i]? = some p := ⟨ps[i]'(by rw [HL1.out]; exact hi1), by simp⟩
            obtain ⟨z, hz⟩ : ∃ z, zs[i]? = some z := ⟨zs[i]'(by rw [HL2.out]; exact hi2), by simp⟩
            obtain rfl := HA1.out (by omega)
            obtain rfl := HA2.out (by omega)
            have hBW : Below w.heap.size w wr := HB1.out.trans (HI.out.bel.mono HB1.out.size)
            have HSN : Hid (sumN ps (i + 1) = sumN ps i + p.n) := sumN_succ ps i p hp
            have HSL : Hid (sumN ps (i + 1) ≤ 1048576) := Nat.le_trans (sumN_le ps (i + 1)) HSZ.out
            obtain ⟨hpc0, hpb0, hpf⟩ := HP.out i p hp
            have HBLT : Hid (b < w.heap.size) := World.block_lt_of_cell? w _ hpc0
            have hz0 := HT.out i z hz
            have hcz : wr.cell? ⟨b2, off2 + i, none⟩ = some (.int .i64 z) := (hBW.cell (p := ⟨b2, off2 + i, none⟩) (World.block_lt_of_cell? w _ hz0)).trans hz0
            obtain ⟨po, pn, pc, pbs⟩ := p
            simp only at hpc0 hpb0 HSN
            have HPF : Hid (pn ≤ pc) := hpf.2.1
            have HPC : Hid (w.cell? ⟨b, off + i, none⟩ = some (.slice po pn pc)) := hpc0
            have HBY0 : Hid (Bytes w po pn pbs) := hpb0
            have HPL : Hid (pbs.length = pn) := hpb0.1
            have HLW : Hid (0 < pn → ∀ ad, po = some ad → ad.block < w.heap.size) := low_ofO hpb0
            obtain ⟨k, hk, hk4⟩ : ∃ k : Nat, bits .and .i64 z 3 = (k : Int) ∧ k < 4 := ⟨(z % 4).toNat, by rw [and3]; omega, by omega⟩
            have HK4 : Hid (k < 4) := hk4
            have hk4' : (k : Int) < 4 := by omega
            have hk0' : (0 : Int) ≤ (k : Int) := Int.natCast_nonneg _
            obtain ⟨kk, HKK⟩ : ∃ kk, Hid (keepI room pn = kk) := ⟨_, rfl⟩
            have HKL : Hid (kk ≤ pn) := by rw [← HKK.out]; exact keepI_le _ _
            have HMIN : Hid (max (0 : Int) (min room (pn : Int)) = (kk : Int)) := by show _ = _; rw [← HKK.out]; unfold keepI; omega
            have HRB : Hid (-9223372036854775808 ≤ room ∧ room ≤ 9223372036854775807) := by rw [← HRM.out]; exact roomB qs keep HKP.out
            obtain ⟨room2, HR2⟩ : ∃ r2, Hid (room - (kk : Int) = r2) := ⟨_, rfl⟩
            have HWR : Hid (wrap64 (room - (kk : Int)) = room2) := by
              show _ = _
              have h1 := HRB.out
              have h2 := HR2.out
              have h3 : (kk : Int) ≤ max room 0 := by rw [← HKK.out]; unfold keepI; omega
              unfold wrap64
              omega
            have hap := or3 qs k pbs hk4 (by rw [HPL.out, HI.out.sum, ← HSN.out]; exact HSL.out) HI.out.used
            have HAP : Hid (∀ q, Calls Try.prog 24 #[.pointer (some ⟨g, 0, none⟩), .string (nmK k), .slice po pn pc] (wr.drewN q) fun e w' => e = .returned (.int .i64 0) ∧ DiskAt (fun k => w1.heap.size ≤ k ∧ k ≠ nb ∧ k ≠ k0) w' g (oD (bodyF (qs ++ [(k, pbs)])) (pcsF (qs ++ [(k, pbs)]))) (4 + (i + 1)) ∧ Only (fun k => w1.heap.size ≤ k ∧ k ≠ nb ∧ k ≠ k0) (wr.drewN q) w') := fun q => by
              have h5 := append_at (HI.out.drewN q).disk (by have := HI50.out; omega) (nmK k) (nmK_size k HK4.out) po pn pc pbs (bytes_drewN q (bytes_kept HBY0.out hBW (Nat.le_refl _))) (fun hpp ad h e => by have h1 := HLW.out hpp ad h; have h2 := HB1.out.size; have h3 := e.1; omega) (by have h1 := HSL.out; have h2 := HSN.out; omega) (.inr (by show usedL (oD (bodyF qs) (pcsF qs)).L + pn ≤ _; rw [HI.out.used, HI.out.sum]; have h1 := HSL.out; have h2 := HSN.out; omega))
              rw [hap] at h5
              refine h5.mono ?_
              rintro e w' ⟨rfl, hd, ho⟩
              refine ⟨rfl, hd.back1 (fun j e => ?_), ho⟩
              have e' : wr.heap.size ≤ j := by simpa using e
              have h1 := HI.out.bel.size
              have h2 := heap_lt HI.out.nam
              have h3 := heap_lt HI.out.arr
              exact ⟨by omega, by omega, by omega⟩
            have hS0 : wr.drew.cell? ⟨nb, k, none⟩ = some (.string (nmK k)) ∧ wr.drew.cell? ⟨b, off + i, none⟩ = some (.slice po pn pc) := by
              refine ⟨?_, ?_⟩
              · rw [cell_of_row _ _ _ _ _ _ (show wr.drew.heap[nb]? = _ from HI.out.nam)]; exact namC_at k hk4
              · exact (show wr.cell? ⟨b, off + i, none⟩ = _ from (hBW.cell (p := ⟨b, off + i, none⟩) HBLT.out).trans hpc0)
            have HINC : Hid (wrap64 ((i : Int) + 1) = ((i + 1 : Nat) : Int)) := winc (by omega)
            have hi1' : (i : Int) < (n1 : Int) := Int.ofNat_lt.2 hi1
            have hi2' : (i : Int) < (n2 : Int) := Int.ofNat_lt.2 hi2
            have hi3' : (i : Int) < 50 := by omega
            have hi0 : (0 : Int) ≤ (i : Int) := Int.natCast_nonneg _
            have HIL : Hid (i < 50) := hi3
            have HBW : Hid (Below w.heap.size w wr) := hBW
            clear hi1 hi2 hi3 hp hz hBW hpc0 hpb0 hpf hz0 hk4 hap
            go_wp2_with fail
            go_region_held3 (fun w' => w'.cell? ⟨nb, k, none⟩ = some (.string (nmK k)) ∧ w'.cell? ⟨b, off + i, none⟩ = some (.slice po pn pc)) (first | assumption | go_keep) ((go_at_call 24; refine Calls.mono (HAP.out 1) ?_; rintro e w6 ⟨rfl, hd, ho⟩; have hS6 := And.intro ((World.cell?_of_block (a := ⟨nb, k, none⟩) (ho.block nb (heap_lt (HI.out.drewN 1).nam) (fun e => e.2.1 rfl))).trans hS0.1) ((World.cell?_of_block (a := ⟨b, off + i, none⟩) (ho.block b (Nat.lt_of_lt_of_le HBLT.out (Nat.le_trans HBW.out.size (by simp))) (fun e => absurd (Nat.le_trans HB1.out.size e.1) (by have := HBLT.out; omega)))).trans hS0.2)))
            have HI6 : Hid (DiskAt (fun k => w1.heap.size ≤ k ∧ k ≠ nb ∧ k ≠ k0) w6 g (oD (bodyF (qs ++ [(k, pbs)])) (pcsF (qs ++ [(k, pbs)]))) (4 + (i + 1)) ∧ w6.heap[k0]? = some (.cells (wanC (wantF qs keep)) 53 (0, 0)) ∧ w6.heap[nb]? = some (.cells namC 9 (0, 0)) ∧ Below w1.heap.size w1 w6) :=
              ⟨hd, (ho.block k0 (heap_lt (HI.out.drewN 1).arr) (fun e => e.2.2 rfl)).trans (HI.out.drewN 1).arr, (ho.block nb (heap_lt (HI.out.drewN 1).nam) (fun e => e.2.1 rfl)).trans (HI.out.drewN 1).nam, (HI.out.drewN 1).bel.trans (ho.below (fun _ e => e.1) (HI.out.drewN 1).bel.size)⟩
            have HBW6 : Hid (Below w.heap.size w w6) := HB1.out.trans (HI6.out.2.2.2.mono HB1.out.size)
            have q1 : w6.cell? ⟨b, off + i, none⟩ = some (.slice po pn pc) := hS6.2
            obtain ⟨wk, HWK⟩ : ∃ l, Hid (wantF qs keep k = l) := ⟨_, rfl⟩
            have q2 : w6.cell? ⟨k0, k, none⟩ = some (.string (bS wk)) := by rw [cell_of_row _ _ _ _ _ _ HI6.out.2.1, ← HWK.out]; exact wanC_at _ k HK4.out
            have q3 := fz_of HI6.out.2.1 k
            have t1 : (convert 28 9 (.slice po kk pc)).run Try.prog w6.drew = .ok (.string (bS (pbs.take kk))) w6.drew := str_bS pc (bytes_drewN 1 (bytes_take (bytes_kept HBY0.out HBW6.out (Nat.le_refl _)) kk HKL.out))
            have t2 : ∀ W : World, (Op.stringOp .add (bS wk) (bS (pbs.take kk))).run Try.prog W = .ok (.string (bS (wk ++ pbs.take kk))) W := fun W => by
              rw [← bS_app]
              refine run_string_add_sum W _ _ ?_
              rw [bS_size, bS_size, List.length_take, ← HWK.out, (want_is qs keep k).2, List.length_take]
              have h1 := or4 qs HI.out.ids
              have h2 := HI.out.sum
              have h3 := HSL.out
              have h4 := HSN.out
              have h5 := HPL.out
              have h6 : (bodyF qs k).length ≤ sumF qs := by
                rw [← h1]
                have h7 : k = 0 ∨ k = 1 ∨ k = 2 ∨ k = 3 := by have := HK4.out; omega
                rcases h7 with e | e | e | e <;> rw [e] <;> omega
              omega
            have hkc : (kk : Int) ≤ (pc : Int) := by have h1 := HKL.out; have h2 := HPF.out; omega
            have hkk0 : (0 : Int) ≤ (kk : Int) := Int.natCast_nonneg _
            have hmin := HMIN.out
            have hwr := HWR.out
            have HOI : Hid (OI w1 g nb k0 ps keep (i + 1) (qs ++ [(k, pbs)]) ((w6.setCell ⟨k0, k, none⟩ (.string (bS (wk ++ pbs.take kk)))).drewN 1)) := by
              refine ⟨HI6.out.1.keep (fun j _ hj => heap_set_ne _ _ _ hj.2.2), ?_, ?_, bel_drewN (HI6.out.2.2.2.setCell (p := ⟨k0, k, none⟩) HK1.out _) 1, ?_, ?_⟩
              · rw [heap_drewN, heap_set HI6.out.2.1, ← HWK.out, wanC_set _ k _ HK4.out]
                congr 2
                congr 1
                funext j
                rw [wantF_snoc, HRM.out, HPL.out, HKK.out]
              · rw [heap_drewN, heap_set_ne _ _ _ (fun e => by
                  have h1 := HI6.out.2.1
                  rw [← e, HI6.out.2.2.1] at h1
                  simp [namC, wanC] at h1)]
                exact HI6.out.2.2.1
              · intro q hq
                rcases List.mem_append.1 hq with hq | hq
                · exact HI.out.ids q hq
                · rw [List.mem_singleton.1 hq]; exact HK4.out
              · rw [sumF_snoc, HI.out.sum, HPL.out, HSN.out]
            have HRM2 : Hid (roomF (qs ++ [(k, pbs)]) keep = room2) := by show _ = _; rw [roomF_snoc, HRM.out, HPL.out, HKK.out, HR2.out]
            clear hS0 hS6 hd ho HAP HI HI6 HBW6 HRM HKK HR2 HRB HWR HMIN HBW
            go_wp2_with fail
            go_region
            have hinc := HINC.out
            clear q1 q2 q3 t1 t2 hmin
            go_wp2_with fail
            go_roundw
            case rel => exact ⟨i + 1, qs ++ [(k, pbs)], room2, by first | rfl | rw [hinc], HIL.out, by first | rfl | rw [hwr], HRM2, HOI⟩
            case measure => first | exact meas_up HIL.out | (rw [hinc]; exact meas_up HIL.out)
          · have hex : ¬ (i : Int) < (n1 : Int) ∨ ((i : Int) < (n1 : Int) ∧ ¬ (i : Int) < (n2 : Int)) ∨ ((i : Int) < (n1 : Int) ∧ (i : Int) < (n2 : Int) ∧ ¬ (i : Int) < 50) := by omega
            clear hall
            rcases hex with h1 | ⟨h1, h2⟩ | ⟨h1, h2, h3⟩
            · go_wp2_with fail
              go_meet
              case rel => exact ⟨i, qs, _, HI50, HI, rfl⟩
            · go_wp2_with fail
              go_meet
              case rel => exact ⟨i, qs, _, HI50, HI, rfl⟩
            · go_wp2_with fail
              go_meet
              case rel => exact ⟨i, qs, _, HI50, HI, rfl⟩
    case rest =>
      obtain ⟨i, qs, w8, HI50, HI, rfl⟩ := hcut
      have HCR : Hid _ := crash_dk HI.out.disk (by have := HI50.out; omega) keep HKP.out
      clear HI0
      go_wp2_with fail
      refine Calls.mono HCR.out ?_
      rintro e w9 ⟨rfl, hd, ho⟩
      have hn8 := heap_lt HI.out.nam
      have hk8 := heap_lt HI.out.arr
      have HD9 : Hid (DiskAt (fun k => w1.heap.size ≤ k ∧ k ≠ nb ∧ k ≠ k0) w9 g ((oD (bodyF qs) (pcsF qs)).crash keep) (4 + i)) := hd.back1 (fun k e => ⟨Nat.le_trans HI.out.bel.size e, by omega, by omega⟩)
      have HA9 : Hid (w9.heap[k0]? = some (.cells (wanC (wantF qs keep)) 53 (0, 0))) := (ho.block k0 hk8 (fun e => e.2.2 rfl)).trans HI.out.arr
      have HN9 : Hid (w9.heap[nb]? = some (.cells namC 9 (0, 0))) := (ho.block nb hn8 (fun e => e.2.1 rfl)).trans HI.out.nam
      have HB9 : Hid (Below w1.heap.size w1 w9) := HI.out.bel.trans (ho.below (fun _ e => e.1) HI.out.bel.size)
      have HUS : Hid ((bodyF qs 0).length + (bodyF qs 1).length + (bodyF qs 2).length + (bodyF qs 3).length ≤ 1048576) := by
        show _ ≤ _
        rw [or4 qs HI.out.ids, HI.out.sum]
        exact Nat.le_trans (sumN_le ps i) HSZ.out
      clear hd ho hn8 hk8 HCR HI
      go_wp2_with fail
      refine (start_at HD9.out).mono ?_
      rintro e w10 ⟨rfl, hd, ho⟩
      rw [or5] at hd
      have HD10 : Hid (DiskAt (fun k => w1.heap.size ≤ k ∧ k ≠ nb ∧ k ≠ k0) w10 g (oD (wantF qs keep) []) (4 + i)) := hd
      have HA10 : Hid (w10.heap[k0]? = some (.cells (wanC (wantF qs keep)) 53 (0, 0))) := (ho.block k0 (heap_lt HA9.out) (fun e => e.2.2 rfl)).trans HA9.out
      have HN10 : Hid (w10.heap[nb]? = some (.cells namC 9 (0, 0))) := (ho.block nb (heap_lt HN9.out) (fun e => e.2.1 rfl)).trans HN9.out
      have HB10 : Hid (Below w1.heap.size w1 w10) := HB9.out.trans (ho.below (fun _ e => e.1) HB9.out.size)
      have HUW : Hid (usedL (oD (wantF qs keep) []).L ≤ 140737488355328) := by
        show _ ≤ _
        rw [used4]
        have h0 := (want_is qs keep 0).2
        have h1 := (want_is qs keep 1).2
        have h2 := (want_is qs keep 2).2
        have h3 := (want_is qs keep 3).2
        have h4 := HUS.out
        rw [h0, h1, h2, h3, List.length_take, List.length_take, List.length_take, List.length_take]
        omega
      clear hd ho HD9 HA9 HN9 HB9 HUS
      go_wp2_with fail
      go_loopw [16, 17, 18] (fun v16 _ _ wr => ∃ j : Nat, v16 = .int .i64 j ∧ Hid (j ≤ 4) ∧ Hid (DiskAt (fun k => w1.heap.size ≤ k ∧ k ≠ nb ∧ k ≠ k0) wr g (oD (wantF qs keep) []) (4 + i)) ∧ Hid (wr.heap[k0]? = some (.cells (wanC (wantF qs keep)) 53 (0, 0))) ∧ Hid (wr.heap[nb]? = some (.cells namC 9 (0, 0))) ∧ Hid (Below w1.heap.size w1 wr)) (fun v16 _ _ _ => 4 - (intOf v16).toNat)
      case atStart => exact ⟨0, rfl, Nat.zero_le 4, HD10, HA10, HN10, HB10⟩
      case round =>
        obtain ⟨j, rfl, HJ4, HD, HA, HN, HB⟩ := hrel
        clear HD10 HA10 HN10 HB10
        by_cases hj : j < 4
        · have hj' : (j : Int) < 4 := by omega
          have hj0 : (0 : Int) ≤ (j : Int) := Int.natCast_nonneg _
          have hcn : wr.cell? ⟨nb, j, none⟩ = some (.string (nmK j)) := by rw [cell_of_row _ _ _ _ _ _ HN.out]; exact namC_at j hj
          have hr := read_at HD.out (nmK j) (nmK_size j hj) HUW.out
          rw [or6 _ _ j hj] at hr
          have HRD : Hid _ := hr
          have HJL : Hid (j < 4) := hj
          have HINC : Hid (wrap64 ((j : Int) + 1) = ((j + 1 : Nat) : Int)) := winc (by omega)
          clear hr hj
          go_wp2_with fail
          refine Calls.mono HRD.out ?_
          rintro e w12 ⟨v, rfl, hown, hb⟩
          obtain ⟨wj, HWJ⟩ : ∃ l, Hid (wantF qs keep j = l) := ⟨_, rfl⟩
          rw [HWJ.out] at hown
          obtain ⟨ro, rc, rfl, hby, -⟩ := own_bytes hown
          have HD12 : Hid (DiskAt (fun k => w1.heap.size ≤ k ∧ k ≠ nb ∧ k ≠ k0) w12 g (oD (wantF qs keep) []) (4 + i)) := HD.out.grown hb
          have HA12 : Hid (w12.heap[k0]? = some (.cells (wanC (wantF qs keep)) 53 (0, 0))) := (hb.block k0 (heap_lt HA.out)).trans HA.out
          have HN12 : Hid (w12.heap[nb]? = some (.cells namC 9 (0, 0))) := (hb.block nb (heap_lt HN.out)).trans HN.out
          have HB12 : Hid (Below w1.heap.size w1 w12) := HB.out.trans (hb.mono HB.out.size)
          obtain ⟨sj, HSJ⟩ : ∃ s, Hid (bS wj = s) := ⟨_, rfl⟩
          have t1 : ∀ q, (convert 28 9 (.slice ro wj.length rc)).run Try.prog (w12.drewN q) = .ok (.string sj) (w12.drewN q) := fun q => by rw [← HSJ.out]; exact str_bS rc (bytes_drewN q hby)
          have q2 : w12.cell? ⟨k0, j, none⟩ = some (.string sj) := by rw [cell_of_row _ _ _ _ _ _ HA12.out, ← HSJ.out, ← HWJ.out]; exact wanC_at _ j HJL.out
          clear hown hby hb HRD hcn HD HA HN HB
          go_wp2_with fail
          go_quiet (fail)
          have HD13 : Hid (DiskAt (fun k => w1.heap.size ≤ k ∧ k ≠ nb ∧ k ≠ k0) (w12.drewN nq) g (oD (wantF qs keep) []) (4 + i)) := HD12.out.keep (fun _ _ _ => by rw [heap_drewN])
          have HA13 : Hid ((w12.drewN nq).heap[k0]? = some (.cells (wanC (wantF qs keep)) 53 (0, 0))) := by rw [heap_drewN]; exact HA12.out
          have HN13 : Hid ((w12.drewN nq).heap[nb]? = some (.cells namC 9 (0, 0))) := by rw [heap_drewN]; exact HN12.out
          have HB13 : Hid (Below w1.heap.size w1 (w12.drewN nq)) := bel_drewN HB12.out nq
          clear t1 q2 HD12 HA12 HN12 HB12
          have hinc := HINC.out
          go_wp2_with fail
          go_roundw
          case rel => exact ⟨j + 1, by first | rfl | rw [hinc], HJL.out, HD13, HA13, HN13, HB13⟩
          case measure => first | exact meas_up HJL.out | (rw [hinc]; exact meas_up HJL.out)
        · have hj' : ¬ (j : Int) < 4 := by omega
          clear hj
          go_wp2_with fail
          go_ret
          exact ⟨rfl, HB1.out.trans (HB.out.mono HB1.out.size)⟩
end Go.Proofs.Ytomeghngjiaofaa
