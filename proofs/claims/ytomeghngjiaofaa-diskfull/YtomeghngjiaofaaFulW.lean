/-
  DiskFull, its walk.
-/
import Derived.Test.YtomeghngjiaofaaFulM
import Derived.Deep.CutBlock
import Derived.Deep.DeepCutAuto
namespace Go.Proofs.Ytomeghngjiaofaa
open Go.RowKit
def BoolsAt (w : World) (b off : Nat) (l : List Bool) : Prop := ∀ i t, l[i]? = some t → w.cell? ⟨b, off + i, none⟩ = some (.bool t)
def arrC (la lb : List UInt8) : Array Value := #[.string (bS la), .string (bS lb)]
structure FI (w1 : World) (g k0 c i : Nat) (la lb : List UInt8) (pcs : List (Nat × Nat)) (wr : World) : Prop where
  disk : DiskAt (fun k => w1.heap.size ≤ k ∧ k ≠ k0) wr g (fA c la lb pcs) (2 + i)
  arr : wr.heap[k0]? = some (.cells (arrC la lb) 60 (0, 0))
  bel : Below w1.heap.size w1 wr
theorem FI.small {w1 : World} {g k0 c i : Nat} {la lb : List UInt8} {pcs : List (Nat × Nat)} {wr : World} (h : FI w1 g k0 c i la lb pcs wr) : la.length + lb.length ≤ c := by
  have := h.disk.1.fits
  rw [fA_used] at this
  exact this
set_option maxRecDepth 100000 in
set_option maxHeartbeats 4000000 in
theorem full_walk (cap0 : Int) (ao1 : Option Addr) (n1 c1 b off : Nat) (ps : List SV) (ao2 : Option Addr) (n2 c2 b2 off2 : Nat) (ts : List Bool) (w : World)
    (hP : PartsAt w b off ps) (hl1 : ps.length = n1) (ha1 : 0 < n1 → ao1 = some ⟨b, off, none⟩) (hT : BoolsAt w b2 off2 ts) (hl2 : ts.length = n2) (ha2 : 0 < n2 → ao2 = some ⟨b2, off2, none⟩) (hsz : ∀ p ∈ ps, p.n ≤ 140737488355328) :
    Calls Try.prog 7 #[.int .i64 cap0, .slice ao1 n1 c1, .slice ao2 n2 c2] w fun e w' => e = .returned (.bool true) ∧ Below w.heap.size w w' := by
  obtain ⟨c, hc, hcb⟩ : ∃ c : Nat, bits .and .i64 cap0 1023 = (c : Int) ∧ c ≤ 1023 := ⟨(cap0 % 1024).toNat, by rw [and1023]; omega, by omega⟩
  have HP : Hid (PartsAt w b off ps) := hP
  have HT : Hid (BoolsAt w b2 off2 ts) := hT
  have HL1 : Hid (ps.length = n1) := hl1
  have HL2 : Hid (ts.length = n2) := hl2
  have HA1 : Hid (0 < n1 → ao1 = some ⟨b, off, none⟩) := ha1
  have HA2 : Hid (0 < n2 → ao2 = some ⟨b2, off2, none⟩) := ha2
  have HSZ : Hid (∀ p ∈ ps, p.n ≤ 140737488355328) := hsz
  have HCB : Hid (c ≤ 1023) := hcb
  clear hP hT hl1 hl2 ha1 ha2 hsz hcb
  go_enter Try.func7, Try.ntmps7
  go_wp2_with fail
  refine (shown_any w).mono ?_
  rintro e w1 ⟨rfl, hb1⟩
  have HB1 : Hid (Below w.heap.size w w1) := hb1
  clear hb1
  go_wp2_with fail
  refine (new_at (c : Int) c w1 (by omega) (Nat.le_trans HCB.out (by decide))).mono ?_
  rintro e w2 ⟨g, rfl, hBg, hd2, hb2⟩
  have HB2 : Hid (Below w1.heap.size w1 w2) := hb2
  have HD2 : Hid (DiskAt (fun k => w1.heap.size ≤ k) w2 g (Dk.new c) 0) := hd2
  clear hd2 hb2 hBg
  go_wp2_with fail
  have hc2 := create_at HD2.out (by decide) sA (by decide)
  rw [new_a] at hc2
  refine hc2.mono ?_
  rintro e w3 ⟨rfl, hd, ho⟩
  have HB3 : Hid (Below w1.heap.size w1 w3) := HB2.out.trans (ho.below (fun _ e => e) HB2.out.size)
  have HD3 : Hid (DiskAt (fun k => w1.heap.size ≤ k) w3 g ⟨c, [⟨0, sA, []⟩], [], false, 0, 0, 1⟩ 1) := hd.back1 (fun _ e => Nat.le_trans HB2.out.size e)
  clear hd ho hc2 HB2 HD2
  go_wp2_with fail
  have hc3 := create_at HD3.out (by decide) sB (by decide)
  rw [new_b] at hc3
  refine hc3.mono ?_
  rintro e w4 ⟨rfl, hd, ho⟩
  have HB4 : Hid (Below w1.heap.size w1 w4) := HB3.out.trans (ho.below (fun _ e => e) HB3.out.size)
  have HD4 : Hid (DiskAt (fun k => w1.heap.size ≤ k) w4 g (fA c [] [] []) 2) := hd.back1 (fun _ e => Nat.le_trans HB3.out.size e)
  clear hd ho hc3 HB3 HD3
  obtain ⟨k0, HK0⟩ : ∃ k0, Hid (w4.heap.size = k0) := ⟨_, rfl⟩
  have HF0 : Hid (FI w1 g k0 c 0 [] [] [] (w4.alloc (.cells (arrC [] []) 60))) := by
    refine ⟨(HD4.out.now.grown (bel_alloc _ _)).mono (fun k _ e => ⟨e.1, fun q => ?_⟩) (Nat.le_refl _), ?_, HB4.out.alloc HB4.out.size _⟩
    · have := e.2; have := HK0.out; omega
    · rw [← HK0.out, heap_alloc_new]
  clear HD4
  go_upto_block 0 with fail
  rw [HK0.out]
  go_cut [10, 11, 12, 13, 14, 15, 16, 17] (fun _ _ _ _ _ _ _ _ wx => ∃ (i : Nat) (la lb : List UInt8) (pcs : List (Nat × Nat)) (wy : World), Hid (i ≤ 50) ∧ Hid (FI w1 g k0 c i la lb pcs wy) ∧ wy = wx)
  case first =>
    go_wp2_with fail
    go_loopw [10, 11, 12, 13, 14, 15, 16, 17] (fun v10 _ _ _ _ _ _ _ wr => ∃ (i : Nat) (la lb : List UInt8) (pcs : List (Nat × Nat)), v10 = .int .i64 i ∧ Hid (i ≤ 50) ∧ Hid (FI w1 g k0 c i la lb pcs wr)) (fun v10 _ _ _ _ _ _ _ _ => 50 - (intOf v10).toNat)
    case atStart => exact ⟨0, [], [], [], rfl, Nat.zero_le 50, HF0⟩
    case round =>
      obtain ⟨i, la, lb, pcs, rfl, HI50, HI⟩ := hrel
      obtain ⟨sa, HSA⟩ : ∃ sa, Hid (bS la = sa) := ⟨_, rfl⟩
      obtain ⟨sb, HSB⟩ : ∃ sb, Hid (bS lb = sb) := ⟨_, rfl⟩
      by_cases hall : i < n1 ∧ i < n2 ∧ i < 50
      · obtain ⟨hi1, hi2, hi3⟩ := hall
        obtain ⟨p, hp⟩ : ∃ p, ps[i]? = some p := ⟨ps[i]'(by rw [HL1.out]; exact hi1), by simp⟩
        obtain ⟨tt, htt⟩ : ∃ tt, ts[i]? = some tt := ⟨ts[i]'(by rw [HL2.out]; exact hi2), by simp⟩
        obtain rfl := HA1.out (by omega)
        obtain rfl := HA2.out (by omega)
        have hBW : Below w.heap.size w wr := HB1.out.trans (HI.out.bel.mono HB1.out.size)
        have HPN : Hid (p.n ≤ 140737488355328) := HSZ.out p (List.mem_of_getElem? hp)
        obtain ⟨hpc0, hpb0, hpf⟩ := HP.out i p hp
        have HBLT : Hid (b < w.heap.size) := World.block_lt_of_cell? w _ hpc0
        have ht0 := HT.out i tt htt
        have hct : wr.cell? ⟨b2, off2 + i, none⟩ = some (.bool tt) := (hBW.cell (p := ⟨b2, off2 + i, none⟩) (World.block_lt_of_cell? w _ ht0)).trans ht0
        obtain ⟨po, pn, pc, pbs⟩ := p
        simp only at hpc0 hpb0 hpf HPN
        have HPC : Hid (w.cell? ⟨b, off + i, none⟩ = some (.slice po pn pc)) := hpc0
        have hcell : wr.cell? ⟨b, off + i, none⟩ = some (.slice po pn pc) := (hBW.cell (p := ⟨b, off + i, none⟩) HBLT.out).trans hpc0
        have HBY0 : Hid (Bytes w po pn pbs) := hpb0
        have HBY : Hid (Bytes wr po pn pbs) := bytes_kept hpb0 hBW (Nat.le_refl _)
        have HPL : Hid (pbs.length = pn) := hpb0.1
        have HNO : Hid (0 < pn → ∀ ad, po = some ad → ¬ (w1.heap.size ≤ ad.block ∧ ad.block ≠ k0)) := fun hpp ad h e => by
          obtain ⟨y, hy, hcl⟩ := hpb0.2 0 _ (List.getElem?_eq_getElem (by rw [hpb0.1]; exact hpp))
          have h5 := World.block_lt_of_cell? w _ hcl
          have hbk : (y.add 0).block = y.block := by unfold Addr.add; split <;> rfl
          rw [hbk] at h5
          rw [hy] at h
          cases h
          have := HB1.out.size
          omega
        obtain ⟨na, HNA⟩ : ∃ na, Hid (la.length = na) := ⟨_, rfl⟩
        obtain ⟨nb, HNB⟩ : ∃ nb, Hid (lb.length = nb) := ⟨_, rfl⟩
        have HZA : Hid (sa.size = na) := by show _ = _; rw [← HSA.out, bS_size]; exact HNA.out
        have HZB : Hid (sb.size = nb) := by show _ = _; rw [← HSB.out, bS_size]; exact HNB.out
        obtain ⟨u0, HU0⟩ : ∃ u0, Hid (na + nb = u0) := ⟨_, rfl⟩
        obtain ⟨u1, HU1⟩ : ∃ u1, Hid (la.length + lb.length + pn = u1) := ⟨_, rfl⟩
        have HSM : Hid (na + nb ≤ 1023) := by show _ ≤ _; have h1 := HI.out.small; have h2 := HNA.out; have h3 := HNB.out; have h4 := HCB.out; omega
        have HS1 : Hid (wrap64 ((na : Int) + (nb : Int)) = (u0 : Int)) := by
          show _ = _
          rw [← HU0.out]; exact waddn (by have := HSM.out; omega)
        have HS2 : Hid (wrap64 ((u0 : Int) + (pn : Int)) = (u1 : Int)) := by
          show _ = _
          rw [← HU1.out, HNA.out, HNB.out, HU0.out]; exact waddn (by have h1 := HSM.out; have h2 := HPN.out; have h3 := HU0.out; omega)
        have HINC : Hid (wrap64 ((i : Int) + 1) = ((i + 1 : Nat) : Int)) := winc (by omega)
        have hi1' : (i : Int) < (n1 : Int) := Int.ofNat_lt.2 hi1
        have hi2' : (i : Int) < (n2 : Int) := Int.ofNat_lt.2 hi2
        have hi3' : (i : Int) < 50 := by omega
        have hi0 : (0 : Int) ≤ (i : Int) := Int.natCast_nonneg _
        have HIL : Hid (i < 50) := hi3
        have HK1 : Hid (w1.heap.size ≤ k0) := by rw [← HK0.out]; exact HB4.out.size
        clear hi1 hi2 hi3 hp htt hBW hpc0 hpb0 hpf ht0
        by_cases hfit : la.length + lb.length + pn ≤ c
        · cases tt with
          | false =>
            have hcell2 : wr.cell? ⟨b2, off2 + i, none⟩ = some (.bool false) := hct
            obtain ⟨pcs2, hap⟩ := (fA_appA c la lb pbs pcs).2 (by rw [HPL.out]; exact hfit)
            have hca := append_at HI.out.disk (by have := HI50.out; omega) sA (by decide) po pn pc pbs HBY.out HNO.out (Nat.le_trans HPN.out (by decide)) (.inr (by rw [fA_pre, fA_used]; have := HCB.out; omega))
            rw [hap] at hca
            have HCA : Hid _ := hca
            have HFIT : Hid (la.length + lb.length + pn ≤ c) := hfit
            clear hca hap hfit hct
            go_wp2_with fail
            refine Calls.mono HCA.out ?_
            rintro e w6 ⟨rfl, hd, ho⟩
            have hk0 : k0 < wr.heap.size := heap_lt HI.out.arr
            have HD6 : Hid (DiskAt (fun k => w1.heap.size ≤ k ∧ k ≠ k0) w6 g (fA c (la ++ pbs) (lb) pcs2) (2 + (i + 1))) := hd.back1 (fun k e => ⟨Nat.le_trans HI.out.bel.size e, by omega⟩)
            have HR6 : Hid (w6.heap[k0]? = some (.cells (arrC la lb) 60 (0, 0))) := (ho.block k0 hk0 (fun e => e.2 rfl)).trans HI.out.arr
            have HB6 : Hid (Below w1.heap.size w1 w6) := HI.out.bel.trans (ho.below (fun _ e => e.1) HI.out.bel.size)
            have HBW6 : Hid (Below w.heap.size w w6) := HB1.out.trans (HB6.out.mono HB1.out.size)
            have q1 : w6.cell? ⟨b, off + i, none⟩ = some (.slice po pn pc) := (HBW6.out.cell (p := ⟨b, off + i, none⟩) HBLT.out).trans HPC.out
            have q2 : w6.cell? ⟨k0, 0, none⟩ = some (.string sa) := by rw [cell_of_row _ _ _ _ _ _ HR6.out, ← HSA.out]; rfl
            have q3 : w6.cell? ⟨k0, 1, none⟩ = some (.string sb) := by rw [cell_of_row _ _ _ _ _ _ HR6.out, ← HSB.out]; rfl
            have hza := HZA.out
            have hzb := HZB.out
            have hs1 := HS1.out
            have hs2 := HS2.out
            have hle : (u1 : Int) ≤ (c : Int) := by have := HFIT.out; have := HU1.out; omega
            have HLT : Hid ((u1 : Int) ≤ (c : Int)) := by show _ ≤ _; have := HFIT.out; have := HU1.out; omega
            clear hd ho HCA hcell hcell2
            go_wp2_with fail
            go_quiet (fail)
            generalize hw7 : w6.drewN nq = w7
            have HD7 : Hid (DiskAt (fun k => w1.heap.size ≤ k ∧ k ≠ k0) w7 g (fA c (la ++ pbs) (lb) pcs2) (2 + (i + 1))) := by rw [← hw7]; exact HD6.out.keep (fun _ _ _ => by rw [heap_drewN])
            have HR7 : Hid (w7.heap[k0]? = some (.cells (arrC la lb) 60 (0, 0))) := by rw [← hw7, heap_drewN]; exact HR6.out
            have HB7 : Hid (Below w1.heap.size w1 w7) := by rw [← hw7]; exact bel_drewN HB6.out nq
            clear q1 q2 q3 hza hzb hs1 hs2 hle hw7 HD6 HR6 HB6 HBW6
            have HBW7 : Hid (Below w.heap.size w w7) := HB1.out.trans (HB7.out.mono HB1.out.size)
            have q1 : w7.cell? ⟨b, off + i, none⟩ = some (.slice po pn pc) := (HBW7.out.cell (p := ⟨b, off + i, none⟩) HBLT.out).trans HPC.out
            have q2 : w7.cell? ⟨k0, 0, none⟩ = some (.string sa) := by rw [cell_of_row _ _ _ _ _ _ HR7.out, ← HSA.out]; rfl
            have q3 := fz_of HR7.out 0
            have hby7 : Bytes w7 po pn pbs := bytes_kept HBY0.out HBW7.out (Nat.le_refl _)
            have t1 : (convert 28 9 (.slice po pn pc)).run Try.prog w7.drew = .ok (.string (bS pbs)) w7.drew := str_bS pc (bytes_drewN 1 hby7)
            have t2 : ∀ W : World, (Op.stringOp .add sa (bS pbs)).run Try.prog W = .ok (.string (bS (la ++ pbs))) W := fun W => by
              rw [run_string_add_sum W _ _ (by rw [← HSA.out, bS_size, bS_size]; have := HFIT.out; have := HCB.out; have := HPL.out; omega), ← HSA.out, bS_app]
            clear hby7
            go_wp2_with fail
            go_region
            generalize hw8 : (w7.setCell ⟨k0, 0, none⟩ (.string (bS (la ++ pbs)))).drew = w8
            have HI8 : Hid (FI w1 g k0 c (i + 1) (la ++ pbs) (lb) pcs2 w8) := by
              rw [← hw8]
              refine ⟨HD7.out.keep (fun k _ hk => heap_set_ne _ _ _ hk.2), ?_, ?_⟩
              · show (w7.setCell ⟨k0, 0, none⟩ (.string (bS (la ++ pbs)))).heap[k0]? = _
                rw [heap_set HR7.out]; rfl
              · exact bel_drewN (HB7.out.setCell (p := ⟨k0, 0, none⟩) HK1.out _) 1
            clear q1 q2 q3 t1 t2 hw8 HD7 HR7 HB7 HBW7
            obtain ⟨la2, HLA2⟩ : ∃ l, Hid (l = la ++ pbs) := ⟨_, rfl⟩
            obtain ⟨lb2, HLB2⟩ : ∃ l, Hid (l = lb) := ⟨_, rfl⟩
            rw [← HLA2.out, ← HLB2.out] at HI8
            clear HLA2 HLB2
            obtain ⟨ta, HTA⟩ : ∃ ta, Hid (bS la2 = ta) := ⟨_, rfl⟩
            obtain ⟨tb, HTB⟩ : ∃ tb, Hid (bS lb2 = tb) := ⟨_, rfl⟩
            obtain ⟨ma, HMA⟩ : ∃ ma, Hid (la2.length = ma) := ⟨_, rfl⟩
            obtain ⟨mb, HMB⟩ : ∃ mb, Hid (lb2.length = mb) := ⟨_, rfl⟩
            obtain ⟨u2, HU2⟩ : ∃ u2, Hid (ma + mb = u2) := ⟨_, rfl⟩
            have HSM8 : Hid (ma + mb ≤ 1023) := by show _ ≤ _; have h1 := HI8.out.small; have h2 := HMA.out; have h3 := HMB.out; have h4 := HCB.out; omega
            have hr8 := read_at HI8.out.disk sA (by decide) (by rw [fA_used, HMA.out, HMB.out]; exact Nat.le_trans HSM8.out (by decide))
            rw [fA_readA] at hr8
            have HR8 : Hid _ := hr8
            clear hr8
            go_wp2_with fail
            refine Calls.mono HR8.out ?_
            rintro e w9 ⟨v, rfl, hown, hb9⟩
            obtain ⟨ra, rac, rfl, hbya, -⟩ := own_bytes hown
            have HBA : Hid (Bytes w9 ra la2.length la2) := hbya
            have HI9 : Hid (FI w1 g k0 c (i + 1) la2 lb2 pcs2 w9) := ⟨HI8.out.disk.grown hb9, (hb9.block k0 (heap_lt HI8.out.arr)).trans HI8.out.arr, HI8.out.bel.trans (hb9.mono HI8.out.bel.size)⟩
            clear hown hbya hb9 HR8 HI8
            have hr9 := read_at HI9.out.disk sB (by decide) (by rw [fA_used, HMA.out, HMB.out]; exact Nat.le_trans HSM8.out (by decide))
            rw [fA_readB] at hr9
            have HR9 : Hid _ := hr9
            clear hr9
            go_wp2_with fail
            refine Calls.mono HR9.out ?_
            rintro e w10 ⟨v2, rfl, hown, hb10⟩
            obtain ⟨rb, rbc, rfl, hbyb, -⟩ := own_bytes hown
            have HI10 : Hid (FI w1 g k0 c (i + 1) la2 lb2 pcs2 w10) := ⟨HI9.out.disk.grown hb10, (hb10.block k0 (heap_lt HI9.out.arr)).trans HI9.out.arr, HI9.out.bel.trans (hb10.mono HI9.out.bel.size)⟩
            have t1 : ∀ kk, (convert 28 9 (.slice ra la2.length rac)).run Try.prog (w10.drewN kk) = .ok (.string ta) (w10.drewN kk) := fun kk => by rw [← HTA.out]; exact str_bS rac (bytes_drewN kk (bytes_kept HBA.out hb10 (Nat.le_refl _)))
            have t2 : ∀ kk, (convert 28 9 (.slice rb lb2.length rbc)).run Try.prog (w10.drewN kk) = .ok (.string tb) (w10.drewN kk) := fun kk => by rw [← HTB.out]; exact str_bS rbc (bytes_drewN kk hbyb)
            have q4 : w10.cell? ⟨k0, 0, none⟩ = some (.string ta) := by rw [cell_of_row _ _ _ _ _ _ HI10.out.arr, ← HTA.out]; rfl
            have q5 : w10.cell? ⟨k0, 1, none⟩ = some (.string tb) := by rw [cell_of_row _ _ _ _ _ _ HI10.out.arr, ← HTB.out]; rfl
            have hza : ta.size = ma := by rw [← HTA.out, bS_size]; exact HMA.out
            have hzb : tb.size = mb := by rw [← HTB.out, bS_size]; exact HMB.out
            have hs1 : wrap64 ((ma : Int) + (mb : Int)) = (u2 : Int) := by rw [← HU2.out]; exact waddn (by have := HSM8.out; omega)
            have HUS : Hid (∀ kk, Calls Try.prog 33 #[.pointer (some ⟨g, 0, none⟩)] (w10.drewN kk) fun e w' => e = .returned (.int .i64 (u2 : Int)) ∧ w' = w10.drewN kk) := fun kk => by
              have h5 := used_at (HI10.out.disk.keep (w' := w10.drewN kk) (fun _ _ _ => by rw [heap_drewN]))
              rw [fA_used, HMA.out, HMB.out, HU2.out] at h5
              exact h5
            clear hown hbyb hb10 HR9 HI9 HBA
            go_wp2_with fail
            go_quiet ((go_at_call 33; exact Calls.quiet_of_same (HUS.out _)))
            have HI11 : Hid (FI w1 g k0 c (i + 1) la2 lb2 pcs2 (w10.drewN nq)) := ⟨HI10.out.disk.keep (fun _ _ _ => by rw [heap_drewN]), by rw [heap_drewN]; exact HI10.out.arr, bel_drewN HI10.out.bel nq⟩
            clear t1 t2 q4 q5 hza hzb hs1 HUS HI10
            have hinc := HINC.out
            go_wp2_with fail
            go_roundw
            case rel => exact ⟨i + 1, la2, lb2, pcs2, by first | rfl | rw [hinc], HIL.out, HI11⟩
            case measure => first | exact meas_up HIL.out | (rw [hinc]; exact meas_up HIL.out)
          | true =>
            have hcell2 : wr.cell? ⟨b2, off2 + i, none⟩ = some (.bool true) := hct
            obtain ⟨pcs2, hap⟩ := (fA_appB c la lb pbs pcs).2 (by rw [HPL.out]; exact hfit)
            have hca := append_at HI.out.disk (by have := HI50.out; omega) sB (by decide) po pn pc pbs HBY.out HNO.out (Nat.le_trans HPN.out (by decide)) (.inr (by rw [fA_pre, fA_used]; have := HCB.out; omega))
            rw [hap] at hca
            have HCA : Hid _ := hca
            have HFIT : Hid (la.length + lb.length + pn ≤ c) := hfit
            clear hca hap hfit hct
            go_wp2_with fail
            refine Calls.mono HCA.out ?_
            rintro e w6 ⟨rfl, hd, ho⟩
            have hk0 : k0 < wr.heap.size := heap_lt HI.out.arr
            have HD6 : Hid (DiskAt (fun k => w1.heap.size ≤ k ∧ k ≠ k0) w6 g (fA c (la) (lb ++ pbs) pcs2) (2 + (i + 1))) := hd.back1 (fun k e => ⟨Nat.le_trans HI.out.bel.size e, by omega⟩)
            have HR6 : Hid (w6.heap[k0]? = some (.cells (arrC la lb) 60 (0, 0))) := (ho.block k0 hk0 (fun e => e.2 rfl)).trans HI.out.arr
            have HB6 : Hid (Below w1.heap.size w1 w6) := HI.out.bel.trans (ho.below (fun _ e => e.1) HI.out.bel.size)
            have HBW6 : Hid (Below w.heap.size w w6) := HB1.out.trans (HB6.out.mono HB1.out.size)
            have q1 : w6.cell? ⟨b, off + i, none⟩ = some (.slice po pn pc) := (HBW6.out.cell (p := ⟨b, off + i, none⟩) HBLT.out).trans HPC.out
            have q2 : w6.cell? ⟨k0, 0, none⟩ = some (.string sa) := by rw [cell_of_row _ _ _ _ _ _ HR6.out, ← HSA.out]; rfl
            have q3 : w6.cell? ⟨k0, 1, none⟩ = some (.string sb) := by rw [cell_of_row _ _ _ _ _ _ HR6.out, ← HSB.out]; rfl
            have hza := HZA.out
            have hzb := HZB.out
            have hs1 := HS1.out
            have hs2 := HS2.out
            have hle : (u1 : Int) ≤ (c : Int) := by have := HFIT.out; have := HU1.out; omega
            have HLT : Hid ((u1 : Int) ≤ (c : Int)) := by show _ ≤ _; have := HFIT.out; have := HU1.out; omega
            clear hd ho HCA hcell hcell2
            go_wp2_with fail
            go_quiet (fail)
            generalize hw7 : w6.drewN nq = w7
            have HD7 : Hid (DiskAt (fun k => w1.heap.size ≤ k ∧ k ≠ k0) w7 g (fA c (la) (lb ++ pbs) pcs2) (2 + (i + 1))) := by rw [← hw7]; exact HD6.out.keep (fun _ _ _ => by rw [heap_drewN])
            have HR7 : Hid (w7.heap[k0]? = some (.cells (arrC la lb) 60 (0, 0))) := by rw [← hw7, heap_drewN]; exact HR6.out
            have HB7 : Hid (Below w1.heap.size w1 w7) := by rw [← hw7]; exact bel_drewN HB6.out nq
            clear q1 q2 q3 hza hzb hs1 hs2 hle hw7 HD6 HR6 HB6 HBW6
            have HBW7 : Hid (Below w.heap.size w w7) := HB1.out.trans (HB7.out.mono HB1.out.size)
            have q1 : w7.cell? ⟨b, off + i, none⟩ = some (.slice po pn pc) := (HBW7.out.cell (p := ⟨b, off + i, none⟩) HBLT.out).trans HPC.out
            have q2 : w7.cell? ⟨k0, 1, none⟩ = some (.string sb) := by rw [cell_of_row _ _ _ _ _ _ HR7.out, ← HSB.out]; rfl
            have q3 := fz_of HR7.out 1
            have hby7 : Bytes w7 po pn pbs := bytes_kept HBY0.out HBW7.out (Nat.le_refl _)
            have t1 : (convert 28 9 (.slice po pn pc)).run Try.prog w7.drew = .ok (.string (bS pbs)) w7.drew := str_bS pc (bytes_drewN 1 hby7)
            have t2 : ∀ W : World, (Op.stringOp .add sb (bS pbs)).run Try.prog W = .ok (.string (bS (lb ++ pbs))) W := fun W => by
              rw [run_string_add_sum W _ _ (by rw [← HSB.out, bS_size, bS_size]; have := HFIT.out; have := HCB.out; have := HPL.out; omega), ← HSB.out, bS_app]
            clear hby7
            go_wp2_with fail
            go_region
            generalize hw8 : (w7.setCell ⟨k0, 1, none⟩ (.string (bS (lb ++ pbs)))).drew = w8
            have HI8 : Hid (FI w1 g k0 c (i + 1) (la) (lb ++ pbs) pcs2 w8) := by
              rw [← hw8]
              refine ⟨HD7.out.keep (fun k _ hk => heap_set_ne _ _ _ hk.2), ?_, ?_⟩
              · show (w7.setCell ⟨k0, 1, none⟩ (.string (bS (lb ++ pbs)))).heap[k0]? = _
                rw [heap_set HR7.out]; rfl
              · exact bel_drewN (HB7.out.setCell (p := ⟨k0, 1, none⟩) HK1.out _) 1
            clear q1 q2 q3 t1 t2 hw8 HD7 HR7 HB7 HBW7
            obtain ⟨la2, HLA2⟩ : ∃ l, Hid (l = la) := ⟨_, rfl⟩
            obtain ⟨lb2, HLB2⟩ : ∃ l, Hid (l = lb ++ pbs) := ⟨_, rfl⟩
            rw [← HLA2.out, ← HLB2.out] at HI8
            clear HLA2 HLB2
            obtain ⟨ta, HTA⟩ : ∃ ta, Hid (bS la2 = ta) := ⟨_, rfl⟩
            obtain ⟨tb, HTB⟩ : ∃ tb, Hid (bS lb2 = tb) := ⟨_, rfl⟩
            obtain ⟨ma, HMA⟩ : ∃ ma, Hid (la2.length = ma) := ⟨_, rfl⟩
            obtain ⟨mb, HMB⟩ : ∃ mb, Hid (lb2.length = mb) := ⟨_, rfl⟩
            obtain ⟨u2, HU2⟩ : ∃ u2, Hid (ma + mb = u2) := ⟨_, rfl⟩
            have HSM8 : Hid (ma + mb ≤ 1023) := by show _ ≤ _; have h1 := HI8.out.small; have h2 := HMA.out; have h3 := HMB.out; have h4 := HCB.out; omega
            have hr8 := read_at HI8.out.disk sA (by decide) (by rw [fA_used, HMA.out, HMB.out]; exact Nat.le_trans HSM8.out (by decide))
            rw [fA_readA] at hr8
            have HR8 : Hid _ := hr8
            clear hr8
            go_wp2_with fail
            refine Calls.mono HR8.out ?_
            rintro e w9 ⟨v, rfl, hown, hb9⟩
            obtain ⟨ra, rac, rfl, hbya, -⟩ := own_bytes hown
            have HBA : Hid (Bytes w9 ra la2.length la2) := hbya
            have HI9 : Hid (FI w1 g k0 c (i + 1) la2 lb2 pcs2 w9) := ⟨HI8.out.disk.grown hb9, (hb9.block k0 (heap_lt HI8.out.arr)).trans HI8.out.arr, HI8.out.bel.trans (hb9.mono HI8.out.bel.size)⟩
            clear hown hbya hb9 HR8 HI8
            have hr9 := read_at HI9.out.disk sB (by decide) (by rw [fA_used, HMA.out, HMB.out]; exact Nat.le_trans HSM8.out (by decide))
            rw [fA_readB] at hr9
            have HR9 : Hid _ := hr9
            clear hr9
            go_wp2_with fail
            refine Calls.mono HR9.out ?_
            rintro e w10 ⟨v2, rfl, hown, hb10⟩
            obtain ⟨rb, rbc, rfl, hbyb, -⟩ := own_bytes hown
            have HI10 : Hid (FI w1 g k0 c (i + 1) la2 lb2 pcs2 w10) := ⟨HI9.out.disk.grown hb10, (hb10.block k0 (heap_lt HI9.out.arr)).trans HI9.out.arr, HI9.out.bel.trans (hb10.mono HI9.out.bel.size)⟩
            have t1 : ∀ kk, (convert 28 9 (.slice ra la2.length rac)).run Try.prog (w10.drewN kk) = .ok (.string ta) (w10.drewN kk) := fun kk => by rw [← HTA.out]; exact str_bS rac (bytes_drewN kk (bytes_kept HBA.out hb10 (Nat.le_refl _)))
            have t2 : ∀ kk, (convert 28 9 (.slice rb lb2.length rbc)).run Try.prog (w10.drewN kk) = .ok (.string tb) (w10.drewN kk) := fun kk => by rw [← HTB.out]; exact str_bS rbc (bytes_drewN kk hbyb)
            have q4 : w10.cell? ⟨k0, 0, none⟩ = some (.string ta) := by rw [cell_of_row _ _ _ _ _ _ HI10.out.arr, ← HTA.out]; rfl
            have q5 : w10.cell? ⟨k0, 1, none⟩ = some (.string tb) := by rw [cell_of_row _ _ _ _ _ _ HI10.out.arr, ← HTB.out]; rfl
            have hza : ta.size = ma := by rw [← HTA.out, bS_size]; exact HMA.out
            have hzb : tb.size = mb := by rw [← HTB.out, bS_size]; exact HMB.out
            have hs1 : wrap64 ((ma : Int) + (mb : Int)) = (u2 : Int) := by rw [← HU2.out]; exact waddn (by have := HSM8.out; omega)
            have HUS : Hid (∀ kk, Calls Try.prog 33 #[.pointer (some ⟨g, 0, none⟩)] (w10.drewN kk) fun e w' => e = .returned (.int .i64 (u2 : Int)) ∧ w' = w10.drewN kk) := fun kk => by
              have h5 := used_at (HI10.out.disk.keep (w' := w10.drewN kk) (fun _ _ _ => by rw [heap_drewN]))
              rw [fA_used, HMA.out, HMB.out, HU2.out] at h5
              exact h5
            clear hown hbyb hb10 HR9 HI9 HBA
            go_wp2_with fail
            go_quiet ((go_at_call 33; exact Calls.quiet_of_same (HUS.out _)))
            have HI11 : Hid (FI w1 g k0 c (i + 1) la2 lb2 pcs2 (w10.drewN nq)) := ⟨HI10.out.disk.keep (fun _ _ _ => by rw [heap_drewN]), by rw [heap_drewN]; exact HI10.out.arr, bel_drewN HI10.out.bel nq⟩
            clear t1 t2 q4 q5 hza hzb hs1 HUS HI10
            have hinc := HINC.out
            go_wp2_with fail
            go_roundw
            case rel => exact ⟨i + 1, la2, lb2, pcs2, by first | rfl | rw [hinc], HIL.out, HI11⟩
            case measure => first | exact meas_up HIL.out | (rw [hinc]; exact meas_up HIL.out)
        · cases tt with
          | false =>
            have hcell2 : wr.cell? ⟨b2, off2 + i, none⟩ = some (.bool false) := hct
            have hap := (fA_appA c la lb pbs pcs).1 (by rw [HPL.out]; exact Nat.lt_of_not_le hfit)
            have hca := append_at HI.out.disk (by have := HI50.out; omega) sA (by decide) po pn pc pbs HBY.out HNO.out (Nat.le_trans HPN.out (by decide)) (.inl (by rw [fA_pre, fA_used]; exact Nat.lt_of_not_le hfit))
            rw [hap] at hca
            have HCA : Hid _ := hca
            have HFIT : Hid (¬ la.length + lb.length + pn ≤ c) := hfit
            clear hca hap hfit hct
            go_wp2_with fail
            refine Calls.mono HCA.out ?_
            rintro e w6 ⟨rfl, hd, ho⟩
            have hk0 : k0 < wr.heap.size := heap_lt HI.out.arr
            have HD6 : Hid (DiskAt (fun k => w1.heap.size ≤ k ∧ k ≠ k0) w6 g (fA c (la) (lb) pcs) (2 + (i + 1))) := hd.back1 (fun k e => ⟨Nat.le_trans HI.out.bel.size e, by omega⟩)
            have HR6 : Hid (w6.heap[k0]? = some (.cells (arrC la lb) 60 (0, 0))) := (ho.block k0 hk0 (fun e => e.2 rfl)).trans HI.out.arr
            have HB6 : Hid (Below w1.heap.size w1 w6) := HI.out.bel.trans (ho.below (fun _ e => e.1) HI.out.bel.size)
            have HBW6 : Hid (Below w.heap.size w w6) := HB1.out.trans (HB6.out.mono HB1.out.size)
            have q1 : w6.cell? ⟨b, off + i, none⟩ = some (.slice po pn pc) := (HBW6.out.cell (p := ⟨b, off + i, none⟩) HBLT.out).trans HPC.out
            have q2 : w6.cell? ⟨k0, 0, none⟩ = some (.string sa) := by rw [cell_of_row _ _ _ _ _ _ HR6.out, ← HSA.out]; rfl
            have q3 : w6.cell? ⟨k0, 1, none⟩ = some (.string sb) := by rw [cell_of_row _ _ _ _ _ _ HR6.out, ← HSB.out]; rfl
            have hza := HZA.out
            have hzb := HZB.out
            have hs1 := HS1.out
            have hs2 := HS2.out
            have hle : decide ((u1 : Int) ≤ (c : Int)) = false := decide_eq_false (by have := HFIT.out; have := HU1.out; omega)
            have HLT : Hid ((c : Int) < (u1 : Int)) := by show _ < _; have := HFIT.out; have := HU1.out; omega
            clear hd ho HCA hcell hcell2
            go_wp2_with fail
            go_quiet (fail)
            generalize hw7 : w6.drewN nq = w7
            have HD7 : Hid (DiskAt (fun k => w1.heap.size ≤ k ∧ k ≠ k0) w7 g (fA c (la) (lb) pcs) (2 + (i + 1))) := by rw [← hw7]; exact HD6.out.keep (fun _ _ _ => by rw [heap_drewN])
            have HR7 : Hid (w7.heap[k0]? = some (.cells (arrC la lb) 60 (0, 0))) := by rw [← hw7, heap_drewN]; exact HR6.out
            have HB7 : Hid (Below w1.heap.size w1 w7) := by rw [← hw7]; exact bel_drewN HB6.out nq
            clear q1 q2 q3 hza hzb hs1 hs2 hle hw7 HD6 HR6 HB6 HBW6
            have HI8 : Hid (FI w1 g k0 c (i + 1) (la) (lb) pcs w7) := ⟨HD7.out, HR7.out, HB7.out⟩
            clear HD7 HR7 HB7
            have hlt := HLT.out
            go_upto_region 22 with fail
            clear hlt
            obtain ⟨w8, hw8⟩ : ∃ w8, w7 = w8 := ⟨_, rfl⟩
            subst hw8
            obtain ⟨la2, HLA2⟩ : ∃ l, Hid (l = la) := ⟨_, rfl⟩
            obtain ⟨lb2, HLB2⟩ : ∃ l, Hid (l = lb) := ⟨_, rfl⟩
            rw [← HLA2.out, ← HLB2.out] at HI8
            clear HLA2 HLB2
            obtain ⟨ta, HTA⟩ : ∃ ta, Hid (bS la2 = ta) := ⟨_, rfl⟩
            obtain ⟨tb, HTB⟩ : ∃ tb, Hid (bS lb2 = tb) := ⟨_, rfl⟩
            obtain ⟨ma, HMA⟩ : ∃ ma, Hid (la2.length = ma) := ⟨_, rfl⟩
            obtain ⟨mb, HMB⟩ : ∃ mb, Hid (lb2.length = mb) := ⟨_, rfl⟩
            obtain ⟨u2, HU2⟩ : ∃ u2, Hid (ma + mb = u2) := ⟨_, rfl⟩
            have HSM8 : Hid (ma + mb ≤ 1023) := by show _ ≤ _; have h1 := HI8.out.small; have h2 := HMA.out; have h3 := HMB.out; have h4 := HCB.out; omega
            have hr8 := read_at HI8.out.disk sA (by decide) (by rw [fA_used, HMA.out, HMB.out]; exact Nat.le_trans HSM8.out (by decide))
            rw [fA_readA] at hr8
            have HR8 : Hid _ := hr8
            clear hr8
            go_wp2_with fail
            refine Calls.mono HR8.out ?_
            rintro e w9 ⟨v, rfl, hown, hb9⟩
            obtain ⟨ra, rac, rfl, hbya, -⟩ := own_bytes hown
            have HBA : Hid (Bytes w9 ra la2.length la2) := hbya
            have HI9 : Hid (FI w1 g k0 c (i + 1) la2 lb2 pcs w9) := ⟨HI8.out.disk.grown hb9, (hb9.block k0 (heap_lt HI8.out.arr)).trans HI8.out.arr, HI8.out.bel.trans (hb9.mono HI8.out.bel.size)⟩
            clear hown hbya hb9 HR8 HI8
            have hr9 := read_at HI9.out.disk sB (by decide) (by rw [fA_used, HMA.out, HMB.out]; exact Nat.le_trans HSM8.out (by decide))
            rw [fA_readB] at hr9
            have HR9 : Hid _ := hr9
            clear hr9
            go_wp2_with fail
            refine Calls.mono HR9.out ?_
            rintro e w10 ⟨v2, rfl, hown, hb10⟩
            obtain ⟨rb, rbc, rfl, hbyb, -⟩ := own_bytes hown
            have HI10 : Hid (FI w1 g k0 c (i + 1) la2 lb2 pcs w10) := ⟨HI9.out.disk.grown hb10, (hb10.block k0 (heap_lt HI9.out.arr)).trans HI9.out.arr, HI9.out.bel.trans (hb10.mono HI9.out.bel.size)⟩
            have t1 : ∀ kk, (convert 28 9 (.slice ra la2.length rac)).run Try.prog (w10.drewN kk) = .ok (.string ta) (w10.drewN kk) := fun kk => by rw [← HTA.out]; exact str_bS rac (bytes_drewN kk (bytes_kept HBA.out hb10 (Nat.le_refl _)))
            have t2 : ∀ kk, (convert 28 9 (.slice rb lb2.length rbc)).run Try.prog (w10.drewN kk) = .ok (.string tb) (w10.drewN kk) := fun kk => by rw [← HTB.out]; exact str_bS rbc (bytes_drewN kk hbyb)
            have q4 : w10.cell? ⟨k0, 0, none⟩ = some (.string ta) := by rw [cell_of_row _ _ _ _ _ _ HI10.out.arr, ← HTA.out]; rfl
            have q5 : w10.cell? ⟨k0, 1, none⟩ = some (.string tb) := by rw [cell_of_row _ _ _ _ _ _ HI10.out.arr, ← HTB.out]; rfl
            have hza : ta.size = ma := by rw [← HTA.out, bS_size]; exact HMA.out
            have hzb : tb.size = mb := by rw [← HTB.out, bS_size]; exact HMB.out
            have hs1 : wrap64 ((ma : Int) + (mb : Int)) = (u2 : Int) := by rw [← HU2.out]; exact waddn (by have := HSM8.out; omega)
            have HUS : Hid (∀ kk, Calls Try.prog 33 #[.pointer (some ⟨g, 0, none⟩)] (w10.drewN kk) fun e w' => e = .returned (.int .i64 (u2 : Int)) ∧ w' = w10.drewN kk) := fun kk => by
              have h5 := used_at (HI10.out.disk.keep (w' := w10.drewN kk) (fun _ _ _ => by rw [heap_drewN]))
              rw [fA_used, HMA.out, HMB.out, HU2.out] at h5
              exact h5
            clear hown hbyb hb10 HR9 HI9 HBA
            go_wp2_with fail
            go_quiet ((go_at_call 33; exact Calls.quiet_of_same (HUS.out _)))
            have HI11 : Hid (FI w1 g k0 c (i + 1) la2 lb2 pcs (w10.drewN nq)) := ⟨HI10.out.disk.keep (fun _ _ _ => by rw [heap_drewN]), by rw [heap_drewN]; exact HI10.out.arr, bel_drewN HI10.out.bel nq⟩
            clear t1 t2 q4 q5 hza hzb hs1 HUS HI10
            have hinc := HINC.out
            go_wp2_with fail
            go_roundw
            case rel => exact ⟨i + 1, la2, lb2, pcs, by first | rfl | rw [hinc], HIL.out, HI11⟩
            case measure => first | exact meas_up HIL.out | (rw [hinc]; exact meas_up HIL.out)
          | true =>
            have hcell2 : wr.cell? ⟨b2, off2 + i, none⟩ = some (.bool true) := hct
            have hap := (fA_appB c la lb pbs pcs).1 (by rw [HPL.out]; exact Nat.lt_of_not_le hfit)
            have hca := append_at HI.out.disk (by have := HI50.out; omega) sB (by decide) po pn pc pbs HBY.out HNO.out (Nat.le_trans HPN.out (by decide)) (.inl (by rw [fA_pre, fA_used]; exact Nat.lt_of_not_le hfit))
            rw [hap] at hca
            have HCA : Hid _ := hca
            have HFIT : Hid (¬ la.length + lb.length + pn ≤ c) := hfit
            clear hca hap hfit hct
            go_wp2_with fail
            refine Calls.mono HCA.out ?_
            rintro e w6 ⟨rfl, hd, ho⟩
            have hk0 : k0 < wr.heap.size := heap_lt HI.out.arr
            have HD6 : Hid (DiskAt (fun k => w1.heap.size ≤ k ∧ k ≠ k0) w6 g (fA c (la) (lb) pcs) (2 + (i + 1))) := hd.back1 (fun k e => ⟨Nat.le_trans HI.out.bel.size e, by omega⟩)
            have HR6 : Hid (w6.heap[k0]? = some (.cells (arrC la lb) 60 (0, 0))) := (ho.block k0 hk0 (fun e => e.2 rfl)).trans HI.out.arr
            have HB6 : Hid (Below w1.heap.size w1 w6) := HI.out.bel.trans (ho.below (fun _ e => e.1) HI.out.bel.size)
            have HBW6 : Hid (Below w.heap.size w w6) := HB1.out.trans (HB6.out.mono HB1.out.size)
            have q1 : w6.cell? ⟨b, off + i, none⟩ = some (.slice po pn pc) := (HBW6.out.cell (p := ⟨b, off + i, none⟩) HBLT.out).trans HPC.out
            have q2 : w6.cell? ⟨k0, 0, none⟩ = some (.string sa) := by rw [cell_of_row _ _ _ _ _ _ HR6.out, ← HSA.out]; rfl
            have q3 : w6.cell? ⟨k0, 1, none⟩ = some (.string sb) := by rw [cell_of_row _ _ _ _ _ _ HR6.out, ← HSB.out]; rfl
            have hza := HZA.out
            have hzb := HZB.out
            have hs1 := HS1.out
            have hs2 := HS2.out
            have hle : decide ((u1 : Int) ≤ (c : Int)) = false := decide_eq_false (by have := HFIT.out; have := HU1.out; omega)
            have HLT : Hid ((c : Int) < (u1 : Int)) := by show _ < _; have := HFIT.out; have := HU1.out; omega
            clear hd ho HCA hcell hcell2
            go_wp2_with fail
            go_quiet (fail)
            generalize hw7 : w6.drewN nq = w7
            have HD7 : Hid (DiskAt (fun k => w1.heap.size ≤ k ∧ k ≠ k0) w7 g (fA c (la) (lb) pcs) (2 + (i + 1))) := by rw [← hw7]; exact HD6.out.keep (fun _ _ _ => by rw [heap_drewN])
            have HR7 : Hid (w7.heap[k0]? = some (.cells (arrC la lb) 60 (0, 0))) := by rw [← hw7, heap_drewN]; exact HR6.out
            have HB7 : Hid (Below w1.heap.size w1 w7) := by rw [← hw7]; exact bel_drewN HB6.out nq
            clear q1 q2 q3 hza hzb hs1 hs2 hle hw7 HD6 HR6 HB6 HBW6
            have HI8 : Hid (FI w1 g k0 c (i + 1) (la) (lb) pcs w7) := ⟨HD7.out, HR7.out, HB7.out⟩
            clear HD7 HR7 HB7
            have hlt := HLT.out
            go_upto_region 22 with fail
            clear hlt
            obtain ⟨w8, hw8⟩ : ∃ w8, w7 = w8 := ⟨_, rfl⟩
            subst hw8
            obtain ⟨la2, HLA2⟩ : ∃ l, Hid (l = la) := ⟨_, rfl⟩
            obtain ⟨lb2, HLB2⟩ : ∃ l, Hid (l = lb) := ⟨_, rfl⟩
            rw [← HLA2.out, ← HLB2.out] at HI8
            clear HLA2 HLB2
            obtain ⟨ta, HTA⟩ : ∃ ta, Hid (bS la2 = ta) := ⟨_, rfl⟩
            obtain ⟨tb, HTB⟩ : ∃ tb, Hid (bS lb2 = tb) := ⟨_, rfl⟩
            obtain ⟨ma, HMA⟩ : ∃ ma, Hid (la2.length = ma) := ⟨_, rfl⟩
            obtain ⟨mb, HMB⟩ : ∃ mb, Hid (lb2.length = mb) := ⟨_, rfl⟩
            obtain ⟨u2, HU2⟩ : ∃ u2, Hid (ma + mb = u2) := ⟨_, rfl⟩
            have HSM8 : Hid (ma + mb ≤ 1023) := by show _ ≤ _; have h1 := HI8.out.small; have h2 := HMA.out; have h3 := HMB.out; have h4 := HCB.out; omega
            have hr8 := read_at HI8.out.disk sA (by decide) (by rw [fA_used, HMA.out, HMB.out]; exact Nat.le_trans HSM8.out (by decide))
            rw [fA_readA] at hr8
            have HR8 : Hid _ := hr8
            clear hr8
            go_wp2_with fail
            refine Calls.mono HR8.out ?_
            rintro e w9 ⟨v, rfl, hown, hb9⟩
            obtain ⟨ra, rac, rfl, hbya, -⟩ := own_bytes hown
            have HBA : Hid (Bytes w9 ra la2.length la2) := hbya
            have HI9 : Hid (FI w1 g k0 c (i + 1) la2 lb2 pcs w9) := ⟨HI8.out.disk.grown hb9, (hb9.block k0 (heap_lt HI8.out.arr)).trans HI8.out.arr, HI8.out.bel.trans (hb9.mono HI8.out.bel.size)⟩
            clear hown hbya hb9 HR8 HI8
            have hr9 := read_at HI9.out.disk sB (by decide) (by rw [fA_used, HMA.out, HMB.out]; exact Nat.le_trans HSM8.out (by decide))
            rw [fA_readB] at hr9
            have HR9 : Hid _ := hr9
            clear hr9
            go_wp2_with fail
            refine Calls.mono HR9.out ?_
            rintro e w10 ⟨v2, rfl, hown, hb10⟩
            obtain ⟨rb, rbc, rfl, hbyb, -⟩ := own_bytes hown
            have HI10 : Hid (FI w1 g k0 c (i + 1) la2 lb2 pcs w10) := ⟨HI9.out.disk.grown hb10, (hb10.block k0 (heap_lt HI9.out.arr)).trans HI9.out.arr, HI9.out.bel.trans (hb10.mono HI9.out.bel.size)⟩
            have t1 : ∀ kk, (convert 28 9 (.slice ra la2.length rac)).run Try.prog (w10.drewN kk) = .ok (.string ta) (w10.drewN kk) := fun kk => by rw [← HTA.out]; exact str_bS rac (bytes_drewN kk (bytes_kept HBA.out hb10 (Nat.le_refl _)))
            have t2 : ∀ kk, (convert 28 9 (.slice rb lb2.length rbc)).run Try.prog (w10.drewN kk) = .ok (.string tb) (w10.drewN kk) := fun kk => by rw [← HTB.out]; exact str_bS rbc (bytes_drewN kk hbyb)
            have q4 : w10.cell? ⟨k0, 0, none⟩ = some (.string ta) := by rw [cell_of_row _ _ _ _ _ _ HI10.out.arr, ← HTA.out]; rfl
            have q5 : w10.cell? ⟨k0, 1, none⟩ = some (.string tb) := by rw [cell_of_row _ _ _ _ _ _ HI10.out.arr, ← HTB.out]; rfl
            have hza : ta.size = ma := by rw [← HTA.out, bS_size]; exact HMA.out
            have hzb : tb.size = mb := by rw [← HTB.out, bS_size]; exact HMB.out
            have hs1 : wrap64 ((ma : Int) + (mb : Int)) = (u2 : Int) := by rw [← HU2.out]; exact waddn (by have := HSM8.out; omega)
            have HUS : Hid (∀ kk, Calls Try.prog 33 #[.pointer (some ⟨g, 0, none⟩)] (w10.drewN kk) fun e w' => e = .returned (.int .i64 (u2 : Int)) ∧ w' = w10.drewN kk) := fun kk => by
              have h5 := used_at (HI10.out.disk.keep (w' := w10.drewN kk) (fun _ _ _ => by rw [heap_drewN]))
              rw [fA_used, HMA.out, HMB.out, HU2.out] at h5
              exact h5
            clear hown hbyb hb10 HR9 HI9 HBA
            go_wp2_with fail
            go_quiet ((go_at_call 33; exact Calls.quiet_of_same (HUS.out _)))
            have HI11 : Hid (FI w1 g k0 c (i + 1) la2 lb2 pcs (w10.drewN nq)) := ⟨HI10.out.disk.keep (fun _ _ _ => by rw [heap_drewN]), by rw [heap_drewN]; exact HI10.out.arr, bel_drewN HI10.out.bel nq⟩
            clear t1 t2 q4 q5 hza hzb hs1 HUS HI10
            have hinc := HINC.out
            go_wp2_with fail
            go_roundw
            case rel => exact ⟨i + 1, la2, lb2, pcs, by first | rfl | rw [hinc], HIL.out, HI11⟩
            case measure => first | exact meas_up HIL.out | (rw [hinc]; exact meas_up HIL.out)
      · have hex : ¬ (i : Int) < (n1 : Int) ∨ ((i : Int) < (n1 : Int) ∧ ¬ (i : Int) < (n2 : Int)) ∨ ((i : Int) < (n1 : Int) ∧ (i : Int) < (n2 : Int) ∧ ¬ (i : Int) < 50) := by omega
        clear hall
        rcases hex with h1 | ⟨h1, h2⟩ | ⟨h1, h2, h3⟩
        · go_wp2_with fail
          go_meet
          case rel => exact ⟨i, la, lb, pcs, _, HI50, HI, rfl⟩
        · go_wp2_with fail
          go_meet
          case rel => exact ⟨i, la, lb, pcs, _, HI50, HI, rfl⟩
        · go_wp2_with fail
          go_meet
          case rel => exact ⟨i, la, lb, pcs, _, HI50, HI, rfl⟩
  case rest =>
    obtain ⟨i, la, lb, pcs, wx, HI50, HI, rfl⟩ := hcut
    obtain ⟨tb, HTB⟩ : ∃ tb, Hid (bS lb = tb) := ⟨_, rfl⟩
    obtain ⟨mb, HMB⟩ : ∃ mb, Hid (lb.length = mb) := ⟨_, rfl⟩
    have HZB : Hid (tb.size = mb) := by show _ = _; rw [← HTB.out, bS_size]; exact HMB.out
    have hk0 : k0 < wx.heap.size := heap_lt HI.out.arr
    have hq5 : wx.cell? ⟨k0, 1, none⟩ = some (.string tb) := by rw [cell_of_row _ _ _ _ _ _ HI.out.arr, ← HTB.out]; rfl
    have HQ5 : Hid (wx.cell? ⟨k0, 1, none⟩ = some (.string tb)) := hq5
    have HK : Hid (k0 < wx.heap.size) := hk0
    have HDL : Hid (∀ kk, Calls Try.prog 27 #[.pointer (some ⟨g, 0, none⟩), .string sA] (wx.drewN kk) fun e w' => e = .returned (.int .i64 0) ∧ DiskAt (fun k => w1.heap.size ≤ k ∧ k ≠ k0) w' g (fB c lb (forgetL pcs 0)) (2 + i + 1) ∧ Only (fun k => w1.heap.size ≤ k ∧ k ≠ k0) (wx.drewN kk) w') := fun kk => by
      have h5 := delete_at (HI.out.disk.keep (w' := wx.drewN kk) (fun _ _ _ => by rw [heap_drewN])) (by have := HI50.out; omega) sA (by decide)
      rw [fA_del] at h5
      refine h5.mono ?_
      rintro e w' ⟨rfl, hd, ho⟩
      exact ⟨rfl, hd.back1 (fun k e => ⟨Nat.le_trans HI.out.bel.size (by simpa using e), by have h6 := HK.out; simp at e; omega⟩), ho⟩
    clear HF0 hk0 hq5
    go_upto_region 26 with fail
    go_cut [138] (fun s wy => s = .bool false ∧ ∃ wz, Hid (DiskAt (fun k => w1.heap.size ≤ k ∧ k ≠ k0) wz g (fB c lb (forgetL pcs 0)) (2 + i + 1)) ∧ Hid (wz.heap[k0]? = some (.cells (arrC la lb) 60 (0, 0))) ∧ Hid (Below w1.heap.size w1 wz) ∧ wz = wy)
    case first =>
      as_aux_lemma =>
        have hzb := HZB.out
        go_wp2_with fail
        go_region_with (first | (go_at_call 27; refine Calls.mono (HDL.out 1) ?_; rintro e w9 ⟨rfl, hd, ho⟩; have q9 : w9.cell? ⟨k0, 1, none⟩ = some (.string tb) := (World.cell?_of_block (a := ⟨k0, 1, none⟩) (ho.block k0 (by simpa using HK.out) (fun e => e.2 rfl))).trans (by simpa using HQ5.out); have HU9 := used_at hd; rw [fB_used, HMB.out] at HU9; have H9 : Hid (DiskAt (fun k => w1.heap.size ≤ k ∧ k ≠ k0) w9 g (fB c lb (forgetL pcs 0)) (2 + i + 1)) := hd; have H9a : Hid (w9.heap[k0]? = some (.cells (arrC la lb) 60 (0, 0))) := (ho.block k0 (by simpa using HK.out) (fun e => e.2 rfl)).trans (by rw [heap_drewN]; exact HI.out.arr); have H9b : Hid (Below w1.heap.size w1 w9) := (bel_drewN HI.out.bel 1).trans (ho.below (fun _ e => e.1) (bel_drewN HI.out.bel 1).size)) | (go_at_call 33; refine HU9.mono ?_; rintro e w10 ⟨rfl, rfl⟩))
        all_goals (clear hd ho HU9 q9)
        all_goals (go_wp2_with fail)
        all_goals go_meet
        all_goals exact ⟨rfl, _, H9, H9a, H9b, rfl⟩
    case rest =>
      obtain ⟨rfl, wz, HDZ, HRZ, HBZ, rfl⟩ := hcut
      have HSM : Hid (mb ≤ c) := by
        show _ ≤ _
        have h5 := HDZ.out.1.fits
        rw [fB_used, HMB.out] at h5
        exact h5
      obtain ⟨r, HRR⟩ : ∃ r, Hid (c - mb = r) := ⟨_, rfl⟩
      have HRB : Hid (r ≤ 1023 ∧ mb + r = c) := by have h1 := HRR.out; have h2 := HSM.out; have h3 := HCB.out; exact ⟨by omega, by omega⟩
      have hzb := HZB.out
      have hq : wz.cell? ⟨k0, 1, none⟩ = some (.string tb) := by rw [cell_of_row _ _ _ _ _ _ HRZ.out, ← HTB.out]; rfl
      have hw1 : wrap64 ((c : Int) - (mb : Int)) = (r : Int) := by rw [← HRR.out]; exact wsubn HSM.out (Nat.le_trans HCB.out (by decide))
      have hw2 : wrap64 ((r : Int) + 1) = ((r + 1 : Nat) : Int) := winc (by have := HRB.out.1; omega)
      obtain ⟨r1, HR1⟩ : ∃ r1, Hid (r + 1 = r1) := ⟨_, rfl⟩
      rw [HR1.out] at hw2
      have hm1 := make_zeros r (by have := HRB.out.1; omega) wz
      obtain ⟨wa, hwa⟩ : ∃ W, wz.alloc (Obj.cells (zrow r) 5) = W := ⟨_, rfl⟩
      rw [hwa] at hm1
      have hm2 := make_zeros r1 (by have h1 := HRB.out.1; have h2 := HR1.out; omega) wa
      have hsa : wa.heap.size = wz.heap.size + 1 := by rw [← hwa]; simp
      obtain ⟨wb, hwb⟩ : ∃ W, wa.alloc (Obj.cells (zrow r1) 5) = W := ⟨_, rfl⟩
      rw [hwb] at hm2
      have hba : Below wz.heap.size wz wa := by rw [← hwa]; exact bel_alloc _ _
      have hbb : Below wz.heap.size wz wb := by rw [← hwb]; exact hba.alloc (by omega) _
      have hqa : wa.cell? ⟨k0, 1, none⟩ = some (.string tb) := (hba.cell (p := ⟨k0, 1, none⟩) (heap_lt HRZ.out)).trans hq
      have HBBW : Hid (Below w1.heap.size w1 wb) := HBZ.out.trans (hbb.mono HBZ.out.size)
      have HSB2 : Hid (wb.heap.size = wz.heap.size + 1 + 1) := by show _ = _; rw [← hwb]; simp [hsa]
      have HY1 : Hid (Bytes wb (some ⟨wz.heap.size, 0, none⟩) r (List.replicate r 0)) := by
        have h7 : wb.heap[wz.heap.size]? = some (Obj.cells (cellsOf (List.replicate r 0)).toArray 5) := by
          rw [← hwb, Below.heap_alloc _ _ _ (by omega), ← hwa, heap_alloc_new, zrow_cells]
        have h8 := block_bytes h7
        rw [List.length_replicate] at h8
        exact h8
      have HY2 : Hid (Bytes wb (some ⟨wa.heap.size, 0, none⟩) r1 (List.replicate r1 0)) := by
        have h7 : wb.heap[wa.heap.size]? = some (Obj.cells (cellsOf (List.replicate r1 0)).toArray 5) := by
          rw [← hwb, heap_alloc_new, zrow_cells]
        have h8 := block_bytes h7
        rw [List.length_replicate] at h8
        exact h8
      have HDB : Hid (DiskAt (here (fun k => w1.heap.size ≤ k ∧ k ≠ k0) wz) wb g (fB c lb (forgetL pcs 0)) (2 + i + 1)) := HDZ.out.now.grown hbb
      have HSA2 : Hid (wa.heap.size = wz.heap.size + 1) := hsa
      clear HDL HQ5 HK HI hba hbb hwa hwb hsa HDZ HRZ
      go_wp2_with fail
      have hap := (fB_appB c lb (List.replicate r1 0) (forgetL pcs 0)).1 (by rw [List.length_replicate, HMB.out]; have h1 := HRB.out.2; have h2 := HR1.out; omega)
      have hc1 := append_at HDB.out (by have := HI50.out; omega) sB (by decide) (some ⟨wa.heap.size, 0, none⟩) r1 r1 (List.replicate r1 0) HY2.out (fun _ ad h => by cases h; exact fun e => by have h1 := e.2; have h2 := HSA2.out; simp only at h1; omega) (by have h1 := HRB.out.1; have h2 := HR1.out; omega) (.inl (by rw [fB_pre, fB_used, HMB.out]; show c < _; have h1 := HRB.out.2; have h2 := HR1.out; omega))
      rw [hap] at hc1
      refine hc1.mono ?_
      rintro e w11 ⟨rfl, hd, ho⟩
      have HD11 : Hid (DiskAt (grow (here (fun k => w1.heap.size ≤ k ∧ k ≠ k0) wz) wb) w11 g (fB c lb (forgetL pcs 0)) (2 + i + 1 + 1)) := hd
      have HY3 : Hid (Bytes w11 (some ⟨wz.heap.size, 0, none⟩) r (List.replicate r 0)) := bytes_only HY1.out ho (fun ad h => by cases h; exact fun e => absurd e.2 (Nat.lt_irrefl _))
      have HB11 : Hid (Below w1.heap.size w1 w11) := HBBW.out.trans (ho.below (fun _ e => e.1.1) HBBW.out.size)
      clear hd ho hc1 hap hm1 hm2 hq hqa hw1 hw2 hzb HDB HY1 HY2
      go_wp2_with fail
      obtain ⟨ps2, hap2⟩ := (fB_appB c lb (List.replicate r 0) (forgetL pcs 0)).2 (by rw [List.length_replicate, HMB.out]; exact Nat.le_of_eq HRB.out.2)
      have hno2 : 0 < r → ∀ ad : Addr, some (⟨wz.heap.size, 0, none⟩ : Addr) = some ad → ¬ grow (here (fun k => w1.heap.size ≤ k ∧ k ≠ k0) wz) wb ad.block := by
        intro _ ad h
        cases h
        intro e
        rcases e with e | e
        · exact absurd e.2 (Nat.lt_irrefl _)
        · have h2 := HSB2.out
          simp only at e
          omega
      have hc2 := append_at HD11.out (by have := HI50.out; omega) sB (by decide) (some ⟨wz.heap.size, 0, none⟩) r r (List.replicate r 0) HY3.out hno2 (by have h1 := HRB.out.1; omega) (.inr (by rw [fB_pre, fB_used, HMB.out]; have h1 := HRB.out.2; have h2 := HCB.out; omega))
      rw [hap2] at hc2
      refine hc2.mono ?_
      rintro e w12 ⟨rfl, hd, ho⟩
      have HB12 : Hid (Below w1.heap.size w1 w12) := HB11.out.trans (ho.below (fun k e => by
        rcases e with e | e
        · exact e.1.1
        · exact Nat.le_trans HBBW.out.size e) HB11.out.size)
      have hu := used_at hd
      rw [fB_used, List.length_append, List.length_replicate, HMB.out, HRB.out.2] at hu
      have HU : Hid _ := hu
      clear hd ho hc2 hap2 hu hno2 HD11 HY3 HB11
      go_wp2_with fail
      refine Calls.mono HU.out ?_
      rintro e w13 ⟨rfl, rfl⟩
      go_wp2_with fail
      go_ret
      exact ⟨rfl, HB1.out.trans (HB12.out.mono HB1.out.size)⟩
end Go.Proofs.Ytomeghngjiaofaa
