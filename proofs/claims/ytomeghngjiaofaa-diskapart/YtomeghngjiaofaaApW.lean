/-
  DiskApart, its walk.
-/
import Derived.Test.YtomeghngjiaofaaApM
import Derived.Test.YtomeghngjiaofaaArmW
import Derived.Test.YtomeghngjiaofaaArgsP
import Derived.Deep.CutBlock
import Derived.Deep.DeepCutAuto
namespace Go.Proofs.Ytomeghngjiaofaa
open Go.RowKit
def actO (D : Dk) (o : OpV) : Int × Dk := D.act o.kd o.nn o.mm o.nm o.dst o.bs
theorem alone_hop {w0 w : World} {g N : Nat} {D : Dk} {C : Nat → Prop} (o : OpV) (hN : N < 1000000) (hcap : D.cap = 1000) (hby : Bytes w0 o.bo o.bn o.bs ∧ o.fine) (hb : Below w0.heap.size w0 w) (hC : ∀ k, C k → w0.heap.size ≤ k) :
    ∀ own : Nat → Prop, (∀ k, own k → C k) → DiskAt own w g D N → Calls Try.prog 35 #[.pointer (some ⟨g, 0, none⟩), .agg (opB o.kd o.nn o.mm o.nm o.dst o.bo o.bn o.bc)] w fun e w' => e = .returned (.int .i64 (actO D o).1) ∧ DiskAt (grow own w) w' g (actO D o).2 (N + 1) ∧ Only own w w' := fun own ho hd => by
  obtain ⟨h1, h2⟩ := hby
  refine alone_at hd hN o.kd o.nn o.mm o.nm o.dst o.bo o.bn o.bc o.bs h2.2.1 h2.2.2.1 h2.2.2.2.1 h2.2.2.2.2.1 (bytes_kept h1 hb (Nat.le_refl _)) (fun h0 ad e q => ?_) (Nat.le_trans h2.2.2.2.2.2.1 h2.2.2.2.2.2.2) (act_fit hcap (by decide) o.bn)
  have h3 := low_ofA h1 h0 ad e
  have h4 := hC _ (ho _ q)
  omega
theorem act_cap' {D : Dk} {o : OpV} {z : Int} {D2 : Dk} (h : actO D o = (z, D2)) (hc : D.cap = 1000) : D2.cap = 1000 := by
  have h1 : (actO D o).2.cap = D.cap := act_cap D _ _ _ _ _ _
  rw [h] at h1
  exact h1.trans hc
structure PI (w1 : World) (ga gb i : Nat) (D : Dk) (wr : World) : Prop where
  two : Two (fun k => w1.heap.size ≤ k) wr ga gb D D (2 * i)
  bel : Below w1.heap.size w1 wr
  cap : D.cap = 1000
structure PJ (w1 : World) (ga gb gc i : Nat) (D E : Dk) (wr : World) : Prop where
  thr : Three (fun k => w1.heap.size ≤ k) wr ga gb gc D D E (80 + 3 * i)
  bel : Below w1.heap.size w1 wr
  cap : D.cap = 1000
  capE : E.cap = 1000
set_option maxRecDepth 100000 in
set_option maxHeartbeats 4000000 in
theorem apart_walk (ao1 : Option Addr) (n1 c1 b1 off1 : Nat) (os1 : List OpV) (ao2 : Option Addr) (n2 c2 b2 off2 : Nat) (os2 : List OpV) (ao3 : Option Addr) (n3 c3 b3 off3 : Nat) (os3 : List OpV) (w : World)
    (hO1 : OpsAt w b1 off1 os1) (hl1 : os1.length = n1) (ha1 : 0 < n1 → ao1 = some ⟨b1, off1, none⟩) (hO2 : OpsAt w b2 off2 os2) (hl2 : os2.length = n2) (ha2 : 0 < n2 → ao2 = some ⟨b2, off2, none⟩) (hO3 : OpsAt w b3 off3 os3) (hl3 : os3.length = n3) (ha3 : 0 < n3 → ao3 = some ⟨b3, off3, none⟩) :
    Calls Try.prog 10 #[.slice ao1 n1 c1, .slice ao2 n2 c2, .slice ao3 n3 c3] w fun e w' => e = .returned (.bool true) ∧ Below w.heap.size w w' := by
  have HO1 : Hid (OpsAt w b1 off1 os1) := hO1
  have HL1 : Hid (os1.length = n1) := hl1
  have HA1 : Hid (0 < n1 → ao1 = some ⟨b1, off1, none⟩) := ha1
  clear hO1 hl1 ha1
  have HO2 : Hid (OpsAt w b2 off2 os2) := hO2
  have HL2 : Hid (os2.length = n2) := hl2
  have HA2 : Hid (0 < n2 → ao2 = some ⟨b2, off2, none⟩) := ha2
  clear hO2 hl2 ha2
  have HO3 : Hid (OpsAt w b3 off3 os3) := hO3
  have HL3 : Hid (os3.length = n3) := hl3
  have HA3 : Hid (0 < n3 → ao3 = some ⟨b3, off3, none⟩) := ha3
  clear hO3 hl3 ha3
  go_enter Try.func10, Try.ntmps10
  go_wp2_with fail
  refine (shown_any w).mono ?_
  rintro e w1 ⟨rfl, hb1⟩
  have HB1 : Hid (Below w.heap.size w w1) := hb1
  clear hb1
  go_wp2_with fail
  refine (new_at 1000 1000 w1 (by decide) (by decide)).mono ?_
  rintro e w2 ⟨ga, rfl, -, hd2, hb2⟩
  have HB2 : Hid (Below w1.heap.size w1 w2) := hb2
  have HD2 : Hid (DiskAt (fun k => w1.heap.size ≤ k) w2 ga (Dk.new 1000) 0) := hd2
  clear hd2 hb2
  go_wp2_with fail
  refine (new_at 1000 1000 w2 (by decide) (by decide)).mono ?_
  rintro e w3 ⟨gb, rfl, -, hd3, hb3⟩
  have HI0 : Hid (PI w1 ga gb 0 (Dk.new 1000) w3) := ⟨⟨here (fun k => w1.heap.size ≤ k) w2, here (fun k => w2.heap.size ≤ k) w3, HD2.out.now.grown hb3, hd3.now, fun k a q => by have h1 := a.2; have h2 := q.1; omega, fun k a => ⟨a.1, Nat.lt_of_lt_of_le a.2 hb3.size⟩, fun k a => ⟨Nat.le_trans HB2.out.size a.1, a.2⟩⟩, HB2.out.trans (hb3.mono HB2.out.size), rfl⟩
  clear hd3 hb3 HB2 HD2
  go_upto_block 0 with fail
  go_cut [10, 11, 12] (fun _ _ _ wx => ∃ (i : Nat) (D : Dk) (wy : World), Hid (i ≤ 40) ∧ Hid (PI w1 ga gb i D wy) ∧ wy = wx)
  case first =>
    as_aux_lemma =>
    go_wp2_with fail
    go_loopw [10, 11, 12] (fun v10 _ _ wr => ∃ (i : Nat) (D : Dk), v10 = .int .i64 i ∧ Hid (i ≤ 40) ∧ Hid (PI w1 ga gb i D wr)) (fun v10 _ _ _ => 40 - (intOf v10).toNat)
    case atStart => exact ⟨0, _, rfl, Nat.zero_le 40, HI0⟩
    case round =>
      obtain ⟨i, D, rfl, HI40, HI⟩ := hrel
      clear HI0
      by_cases hall : i < n1 ∧ i < 40
      · obtain ⟨hi1, hi2⟩ := hall
        obtain ⟨o, ho⟩ : ∃ o, os1[i]? = some o := ⟨os1[i]'(by rw [HL1.out]; exact hi1), by simp⟩
        obtain rfl := HA1.out (by omega)
        obtain ⟨hoc, hob, hof⟩ := HO1.out i o ho
        obtain ⟨kd, nn, mm, nm, dst, bo, bn, bc, bs⟩ := o
        have HBY : Hid (Bytes w bo bn bs ∧ OpV.fine ⟨kd, nn, mm, nm, dst, bo, bn, bc, bs⟩) := ⟨hob, hof⟩
        have HLC : Hid (∀ W, Below w.heap.size w W → ∀ j u, (opC ⟨kd, nn, mm, nm, dst, bo, bn, bc, bs⟩)[j]? = some u → W.cell? ⟨b1, off1 + i * 6 + j, none⟩ = some u) := fun W hW j u hu => by
          have h5 := hoc j u hu
          exact (hW.cell (p := ⟨b1, off1 + i * 6 + j, none⟩) (World.block_lt_of_cell? w _ h5)).trans h5
        clear ho hoc hob hof
        have HBW : Hid (Below w.heap.size w wr) := HB1.out.trans (HI.out.bel.mono HB1.out.size)
        have l0 : wr.cell? ⟨b1, off1 + i * 6, none⟩ = some (.int .i64 kd) := HLC.out _ HBW.out 0 _ rfl
        have l1 : wr.cell? ⟨b1, off1 + i * 6 + 1, none⟩ = some (.int .i64 nn) := HLC.out _ HBW.out 1 _ rfl
        have l2 : wr.cell? ⟨b1, off1 + i * 6 + 2, none⟩ = some (.int .i64 mm) := HLC.out _ HBW.out 2 _ rfl
        have l3 : wr.cell? ⟨b1, off1 + i * 6 + 3, none⟩ = some (.string nm) := HLC.out _ HBW.out 3 _ rfl
        have l4 : wr.cell? ⟨b1, off1 + i * 6 + 4, none⟩ = some (.string dst) := HLC.out _ HBW.out 4 _ rfl
        have l5 : wr.cell? ⟨b1, off1 + i * 6 + 5, none⟩ = some (.slice bo bn bc) := HLC.out _ HBW.out 5 _ rfl
        have HINC : Hid (wrap64 ((i : Int) + 1) = ((i + 1 : Nat) : Int)) := winc (by omega)
        have hi1' : (i : Int) < (n1 : Int) := Int.ofNat_lt.2 hi1
        have hi2' : (i : Int) < 40 := by omega
        have hi0 : (0 : Int) ≤ (i : Int) := Int.natCast_nonneg _
        have HIL : Hid (i < 40) := hi2
        have HCC : Hid (∀ k, w1.heap.size ≤ k → w.heap.size ≤ k) := fun k e => Nat.le_trans HB1.out.size e
        obtain ⟨z, D2, HAC⟩ : ∃ z D2, Hid (actO D ⟨kd, nn, mm, nm, dst, bo, bn, bc, bs⟩ = (z, D2)) := ⟨_, _, rfl⟩
        have HA : Hid _ := two_A HI.out.two (fun k e => Nat.le_trans HI.out.bel.size e) (alone_hop ⟨kd, nn, mm, nm, dst, bo, bn, bc, bs⟩ (by omega) HI.out.cap HBY.out HBW.out HCC.out)
        rw [HAC.out] at HA
        clear hi1 hi2
        go_wp2_with fail
        refine Calls.mono HA.out ?_
        rintro e w4 ⟨rfl, hT4, ho4⟩
        have HT4 : Hid (Two (fun k => w1.heap.size ≤ k) w4 ga gb D2 D (2 * i + 1)) := hT4
        have HB4 : Hid (Below w1.heap.size w1 w4) := HI.out.bel.trans (ho4.below (fun _ e => e) HI.out.bel.size)
        have HBW4 : Hid (Below w.heap.size w w4) := HB1.out.trans (HB4.out.mono HB1.out.size)
        clear hT4 ho4 l0 l1 l2 l3 l4 l5 HA
        have l0 : w4.cell? ⟨b1, off1 + i * 6, none⟩ = some (.int .i64 kd) := HLC.out _ HBW4.out 0 _ rfl
        have l1 : w4.cell? ⟨b1, off1 + i * 6 + 1, none⟩ = some (.int .i64 nn) := HLC.out _ HBW4.out 1 _ rfl
        have l2 : w4.cell? ⟨b1, off1 + i * 6 + 2, none⟩ = some (.int .i64 mm) := HLC.out _ HBW4.out 2 _ rfl
        have l3 : w4.cell? ⟨b1, off1 + i * 6 + 3, none⟩ = some (.string nm) := HLC.out _ HBW4.out 3 _ rfl
        have l4 : w4.cell? ⟨b1, off1 + i * 6 + 4, none⟩ = some (.string dst) := HLC.out _ HBW4.out 4 _ rfl
        have l5 : w4.cell? ⟨b1, off1 + i * 6 + 5, none⟩ = some (.slice bo bn bc) := HLC.out _ HBW4.out 5 _ rfl
        have HA : Hid _ := two_B HT4.out (fun k e => Nat.le_trans HB4.out.size e) (alone_hop ⟨kd, nn, mm, nm, dst, bo, bn, bc, bs⟩ (by have := HI40.out; omega) HI.out.cap HBY.out HBW4.out HCC.out)
        rw [HAC.out] at HA
        go_wp2_with fail
        refine Calls.mono HA.out ?_
        rintro e w5 ⟨rfl, hT5, ho5⟩
        have HN : Hid (PI w1 ga gb (i + 1) D2 w5) := ⟨hT5.mono (fun _ _ e => e) (by omega), HB4.out.trans (ho5.below (fun _ e => e) HB4.out.size), act_cap' HAC.out HI.out.cap⟩
        clear hT5 ho5 l0 l1 l2 l3 l4 l5 HA HT4 HB4 HBW4 HBW
        have hinc := HINC.out
        go_wp2_with fail
        go_roundw
        case rel => exact ⟨i + 1, D2, by first | rfl | rw [hinc], HIL.out, HN⟩
        case measure => first | exact meas_up HIL.out | (rw [hinc]; exact meas_up HIL.out)
      · have hex : ¬ (i : Int) < (n1 : Int) ∨ ((i : Int) < (n1 : Int) ∧ ¬ (i : Int) < 40) := by omega
        clear hall
        rcases hex with h1 | ⟨h1, h2⟩
        · go_wp2_with fail
          go_meet
          case rel => exact ⟨i, D, _, HI40, HI, rfl⟩
        · go_wp2_with fail
          go_meet
          case rel => exact ⟨i, D, _, HI40, HI, rfl⟩
  case rest =>
    obtain ⟨i0, D0, w8, HI40, HI, rfl⟩ := hcut
    clear HI0
    have HUD : Hid (usedL D0.L ≤ 140737488355328) := by
      have h1 := HI.out.two.wfs.1.fits
      rw [HI.out.cap] at h1
      show _ ≤ _
      omega
    go_wp2_with fail
    refine (two_clone HI.out.two (fun k e => Nat.le_trans HI.out.bel.size e) (by have := HI40.out; omega) HUD.out).mono ?_
    rintro e w9 ⟨gc, rfl, hT9, hb9⟩
    have HJ0 : Hid (PJ w1 ga gb gc 0 D0 D0 w9) := ⟨hT9.mono (by have := HI40.out; omega), HI.out.bel.trans (hb9.mono HI.out.bel.size), HI.out.cap, HI.out.cap⟩
    clear hT9 hb9 HUD HI HI40
    go_wp2_with fail
    go_loopw [14, 15, 16] (fun v14 _ _ wr => ∃ (i : Nat) (D E : Dk), v14 = .int .i64 i ∧ Hid (i ≤ 40) ∧ Hid (PJ w1 ga gb gc i D E wr)) (fun v14 _ _ _ => 40 - (intOf v14).toNat)
    case atStart => exact ⟨0, _, _, rfl, Nat.zero_le 40, HJ0⟩
    case round =>
      obtain ⟨i, D, E, rfl, HI40, HI2⟩ := hrel
      clear HJ0
      by_cases hall : i < 40
      · have hi2' : (i : Int) < 40 := by omega
        have hi0 : (0 : Int) ≤ (i : Int) := Int.natCast_nonneg _
        have HIL : Hid (i < 40) := hall
        have HINC : Hid (wrap64 ((i : Int) + 1) = ((i + 1 : Nat) : Int)) := winc (by omega)
        have HCC : Hid (∀ k, w1.heap.size ≤ k → w.heap.size ≤ k) := fun k e => Nat.le_trans HB1.out.size e
        by_cases h3 : i < n3
        · have hi1 : i < n3 := h3
          obtain ⟨o, ho⟩ : ∃ o, os3[i]? = some o := ⟨os3[i]'(by rw [HL3.out]; exact hi1), by simp⟩
          obtain rfl := HA3.out (by omega)
          obtain ⟨hoc, hob, hof⟩ := HO3.out i o ho
          obtain ⟨kdx, nnx, mmx, nmx, dstx, box, bnx, bcx, bsx⟩ := o
          have HBYx : Hid (Bytes w box bnx bsx ∧ OpV.fine ⟨kdx, nnx, mmx, nmx, dstx, box, bnx, bcx, bsx⟩) := ⟨hob, hof⟩
          have HLCx : Hid (∀ W, Below w.heap.size w W → ∀ j u, (opC ⟨kdx, nnx, mmx, nmx, dstx, box, bnx, bcx, bsx⟩)[j]? = some u → W.cell? ⟨b3, off3 + i * 6 + j, none⟩ = some u) := fun W hW j u hu => by
            have h5 := hoc j u hu
            exact (hW.cell (p := ⟨b3, off3 + i * 6 + j, none⟩) (World.block_lt_of_cell? w _ h5)).trans h5
          clear ho hoc hob hof
          have hin3 : (i : Int) < (n3 : Int) := by omega
          clear h3 hi1
          by_cases h2 : i < n2
          · have hi1 : i < n2 := h2
            obtain ⟨o, ho⟩ : ∃ o, os2[i]? = some o := ⟨os2[i]'(by rw [HL2.out]; exact hi1), by simp⟩
            obtain rfl := HA2.out (by omega)
            obtain ⟨hoc, hob, hof⟩ := HO2.out i o ho
            obtain ⟨kd, nn, mm, nm, dst, bo, bn, bc, bs⟩ := o
            have HBY : Hid (Bytes w bo bn bs ∧ OpV.fine ⟨kd, nn, mm, nm, dst, bo, bn, bc, bs⟩) := ⟨hob, hof⟩
            have HLC : Hid (∀ W, Below w.heap.size w W → ∀ j u, (opC ⟨kd, nn, mm, nm, dst, bo, bn, bc, bs⟩)[j]? = some u → W.cell? ⟨b2, off2 + i * 6 + j, none⟩ = some u) := fun W hW j u hu => by
              have h5 := hoc j u hu
              exact (hW.cell (p := ⟨b2, off2 + i * 6 + j, none⟩) (World.block_lt_of_cell? w _ h5)).trans h5
            clear ho hoc hob hof
            have hin2 : (i : Int) < (n2 : Int) := by omega
            clear h2 hi1
            have HBW : Hid (Below w.heap.size w wr) := HB1.out.trans (HI2.out.bel.mono HB1.out.size)
            have l0 : wr.cell? ⟨b3, off3 + i * 6, none⟩ = some (.int .i64 kdx) := HLCx.out _ HBW.out 0 _ rfl
            have l1 : wr.cell? ⟨b3, off3 + i * 6 + 1, none⟩ = some (.int .i64 nnx) := HLCx.out _ HBW.out 1 _ rfl
            have l2 : wr.cell? ⟨b3, off3 + i * 6 + 2, none⟩ = some (.int .i64 mmx) := HLCx.out _ HBW.out 2 _ rfl
            have l3 : wr.cell? ⟨b3, off3 + i * 6 + 3, none⟩ = some (.string nmx) := HLCx.out _ HBW.out 3 _ rfl
            have l4 : wr.cell? ⟨b3, off3 + i * 6 + 4, none⟩ = some (.string dstx) := HLCx.out _ HBW.out 4 _ rfl
            have l5 : wr.cell? ⟨b3, off3 + i * 6 + 5, none⟩ = some (.slice box bnx bcx) := HLCx.out _ HBW.out 5 _ rfl
            obtain ⟨zx, E2, HAX⟩ : ∃ z D2, Hid (actO E ⟨kdx, nnx, mmx, nmx, dstx, box, bnx, bcx, bsx⟩ = (z, D2)) := ⟨_, _, rfl⟩
            have HA : Hid _ := three_C HI2.out.thr (fun k e => Nat.le_trans HI2.out.bel.size e) (alone_hop ⟨kdx, nnx, mmx, nmx, dstx, box, bnx, bcx, bsx⟩ (by omega) HI2.out.capE HBYx.out HBW.out HCC.out)
            rw [HAX.out] at HA
            go_wp2_with fail
            refine Calls.mono HA.out ?_
            rintro e w4 ⟨rfl, hT4, ho4⟩
            have HP4 : Hid (Three (fun k => w1.heap.size ≤ k) w4 ga gb gc D D E2 (80 + 3 * i + 1) ∧ Below w1.heap.size w1 w4 ∧ E2.cap = 1000) := ⟨hT4, HI2.out.bel.trans (ho4.below (fun _ e => e) HI2.out.bel.size), act_cap' HAX.out HI2.out.capE⟩
            clear hT4 ho4 l0 l1 l2 l3 l4 l5 HA HBW
            have HBW : Hid (Below w.heap.size w w4) := HB1.out.trans (HP4.out.2.1.mono HB1.out.size)
            have l0 : w4.cell? ⟨b2, off2 + i * 6, none⟩ = some (.int .i64 kd) := HLC.out _ HBW.out 0 _ rfl
            have l1 : w4.cell? ⟨b2, off2 + i * 6 + 1, none⟩ = some (.int .i64 nn) := HLC.out _ HBW.out 1 _ rfl
            have l2 : w4.cell? ⟨b2, off2 + i * 6 + 2, none⟩ = some (.int .i64 mm) := HLC.out _ HBW.out 2 _ rfl
            have l3 : w4.cell? ⟨b2, off2 + i * 6 + 3, none⟩ = some (.string nm) := HLC.out _ HBW.out 3 _ rfl
            have l4 : w4.cell? ⟨b2, off2 + i * 6 + 4, none⟩ = some (.string dst) := HLC.out _ HBW.out 4 _ rfl
            have l5 : w4.cell? ⟨b2, off2 + i * 6 + 5, none⟩ = some (.slice bo bn bc) := HLC.out _ HBW.out 5 _ rfl
            obtain ⟨z, D2, HAC⟩ : ∃ z D2, Hid (actO D ⟨kd, nn, mm, nm, dst, bo, bn, bc, bs⟩ = (z, D2)) := ⟨_, _, rfl⟩
            have HA : Hid _ := three_A HP4.out.1 (fun k e => Nat.le_trans HP4.out.2.1.size e) (alone_hop ⟨kd, nn, mm, nm, dst, bo, bn, bc, bs⟩ (by have := HIL.out; omega) HI2.out.cap HBY.out HBW.out HCC.out)
            rw [HAC.out] at HA
            go_wp2_with fail
            refine Calls.mono HA.out ?_
            rintro e w5 ⟨rfl, hT5, ho5⟩
            have HT5 : Hid (Three (fun k => w1.heap.size ≤ k) w5 ga gb gc D2 D E2 (80 + 3 * i + 1 + 1)) := hT5
            have HB5 : Hid (Below w1.heap.size w1 w5) := HP4.out.2.1.trans (ho5.below (fun _ e => e) HP4.out.2.1.size)
            have HBW5 : Hid (Below w.heap.size w w5) := HB1.out.trans (HB5.out.mono HB1.out.size)
            clear hT5 ho5 l0 l1 l2 l3 l4 l5 HA
            have l0 : w5.cell? ⟨b2, off2 + i * 6, none⟩ = some (.int .i64 kd) := HLC.out _ HBW5.out 0 _ rfl
            have l1 : w5.cell? ⟨b2, off2 + i * 6 + 1, none⟩ = some (.int .i64 nn) := HLC.out _ HBW5.out 1 _ rfl
            have l2 : w5.cell? ⟨b2, off2 + i * 6 + 2, none⟩ = some (.int .i64 mm) := HLC.out _ HBW5.out 2 _ rfl
            have l3 : w5.cell? ⟨b2, off2 + i * 6 + 3, none⟩ = some (.string nm) := HLC.out _ HBW5.out 3 _ rfl
            have l4 : w5.cell? ⟨b2, off2 + i * 6 + 4, none⟩ = some (.string dst) := HLC.out _ HBW5.out 4 _ rfl
            have l5 : w5.cell? ⟨b2, off2 + i * 6 + 5, none⟩ = some (.slice bo bn bc) := HLC.out _ HBW5.out 5 _ rfl
            have HA : Hid _ := three_B HT5.out (fun k e => Nat.le_trans HB5.out.size e) (alone_hop ⟨kd, nn, mm, nm, dst, bo, bn, bc, bs⟩ (by have := HIL.out; omega) HI2.out.cap HBY.out HBW5.out HCC.out)
            rw [HAC.out] at HA
            go_wp2_with fail
            refine Calls.mono HA.out ?_
            rintro e w6 ⟨rfl, hT6, ho6⟩
            have HN : Hid (PJ w1 ga gb gc (i + 1) D2 E2 w6) := ⟨hT6.mono (by omega), HB5.out.trans (ho6.below (fun _ e => e) HB5.out.size), act_cap' HAC.out HI2.out.cap, HP4.out.2.2⟩
            clear hT6 ho6 l0 l1 l2 l3 l4 l5 HA HT5 HB5 HBW5 HBW
            have hinc := HINC.out
            go_wp2_with fail
            go_roundw
            case rel => exact ⟨i + 1, D2, E2, by first | rfl | rw [hinc], HIL.out, HN⟩
            case measure => first | exact meas_up HIL.out | (rw [hinc]; exact meas_up HIL.out)
          · have hin2 : ¬ (i : Int) < (n2 : Int) := by omega
            clear h2
            have HBW : Hid (Below w.heap.size w wr) := HB1.out.trans (HI2.out.bel.mono HB1.out.size)
            have l0 : wr.cell? ⟨b3, off3 + i * 6, none⟩ = some (.int .i64 kdx) := HLCx.out _ HBW.out 0 _ rfl
            have l1 : wr.cell? ⟨b3, off3 + i * 6 + 1, none⟩ = some (.int .i64 nnx) := HLCx.out _ HBW.out 1 _ rfl
            have l2 : wr.cell? ⟨b3, off3 + i * 6 + 2, none⟩ = some (.int .i64 mmx) := HLCx.out _ HBW.out 2 _ rfl
            have l3 : wr.cell? ⟨b3, off3 + i * 6 + 3, none⟩ = some (.string nmx) := HLCx.out _ HBW.out 3 _ rfl
            have l4 : wr.cell? ⟨b3, off3 + i * 6 + 4, none⟩ = some (.string dstx) := HLCx.out _ HBW.out 4 _ rfl
            have l5 : wr.cell? ⟨b3, off3 + i * 6 + 5, none⟩ = some (.slice box bnx bcx) := HLCx.out _ HBW.out 5 _ rfl
            obtain ⟨zx, E2, HAX⟩ : ∃ z D2, Hid (actO E ⟨kdx, nnx, mmx, nmx, dstx, box, bnx, bcx, bsx⟩ = (z, D2)) := ⟨_, _, rfl⟩
            have HA : Hid _ := three_C HI2.out.thr (fun k e => Nat.le_trans HI2.out.bel.size e) (alone_hop ⟨kdx, nnx, mmx, nmx, dstx, box, bnx, bcx, bsx⟩ (by omega) HI2.out.capE HBYx.out HBW.out HCC.out)
            rw [HAX.out] at HA
            go_wp2_with fail
            refine Calls.mono HA.out ?_
            rintro e w4 ⟨rfl, hT4, ho4⟩
            have HP4 : Hid (Three (fun k => w1.heap.size ≤ k) w4 ga gb gc D D E2 (80 + 3 * i + 1) ∧ Below w1.heap.size w1 w4 ∧ E2.cap = 1000) := ⟨hT4, HI2.out.bel.trans (ho4.below (fun _ e => e) HI2.out.bel.size), act_cap' HAX.out HI2.out.capE⟩
            clear hT4 ho4 l0 l1 l2 l3 l4 l5 HA HBW
            obtain ⟨D2, HN⟩ : ∃ D2, Hid (PJ w1 ga gb gc (i + 1) D2 E2 w4) := ⟨D, HP4.out.1.mono (by omega), HP4.out.2.1, HI2.out.cap, HP4.out.2.2⟩
            have hinc := HINC.out
            go_wp2_with fail
            go_roundw
            case rel => exact ⟨i + 1, D2, E2, by first | rfl | rw [hinc], HIL.out, HN⟩
            case measure => first | exact meas_up HIL.out | (rw [hinc]; exact meas_up HIL.out)
        · have hin3 : ¬ (i : Int) < (n3 : Int) := by omega
          clear h3
          by_cases h2 : i < n2
          · have hi1 : i < n2 := h2
            obtain ⟨o, ho⟩ : ∃ o, os2[i]? = some o := ⟨os2[i]'(by rw [HL2.out]; exact hi1), by simp⟩
            obtain rfl := HA2.out (by omega)
            obtain ⟨hoc, hob, hof⟩ := HO2.out i o ho
            obtain ⟨kd, nn, mm, nm, dst, bo, bn, bc, bs⟩ := o
            have HBY : Hid (Bytes w bo bn bs ∧ OpV.fine ⟨kd, nn, mm, nm, dst, bo, bn, bc, bs⟩) := ⟨hob, hof⟩
            have HLC : Hid (∀ W, Below w.heap.size w W → ∀ j u, (opC ⟨kd, nn, mm, nm, dst, bo, bn, bc, bs⟩)[j]? = some u → W.cell? ⟨b2, off2 + i * 6 + j, none⟩ = some u) := fun W hW j u hu => by
              have h5 := hoc j u hu
              exact (hW.cell (p := ⟨b2, off2 + i * 6 + j, none⟩) (World.block_lt_of_cell? w _ h5)).trans h5
            clear ho hoc hob hof
            have hin2 : (i : Int) < (n2 : Int) := by omega
            clear h2 hi1
            obtain ⟨w4, E2, hw4, HP4⟩ : ∃ w4 E2, w4 = wr ∧ Hid (Three (fun k => w1.heap.size ≤ k) w4 ga gb gc D D E2 (80 + 3 * i + 1) ∧ Below w1.heap.size w1 w4 ∧ E2.cap = 1000) := ⟨wr, E, rfl, HI2.out.thr.mono (by omega), HI2.out.bel, HI2.out.capE⟩
            rw [← hw4]
            clear hw4
            have HBW : Hid (Below w.heap.size w w4) := HB1.out.trans (HP4.out.2.1.mono HB1.out.size)
            have l0 : w4.cell? ⟨b2, off2 + i * 6, none⟩ = some (.int .i64 kd) := HLC.out _ HBW.out 0 _ rfl
            have l1 : w4.cell? ⟨b2, off2 + i * 6 + 1, none⟩ = some (.int .i64 nn) := HLC.out _ HBW.out 1 _ rfl
            have l2 : w4.cell? ⟨b2, off2 + i * 6 + 2, none⟩ = some (.int .i64 mm) := HLC.out _ HBW.out 2 _ rfl
            have l3 : w4.cell? ⟨b2, off2 + i * 6 + 3, none⟩ = some (.string nm) := HLC.out _ HBW.out 3 _ rfl
            have l4 : w4.cell? ⟨b2, off2 + i * 6 + 4, none⟩ = some (.string dst) := HLC.out _ HBW.out 4 _ rfl
            have l5 : w4.cell? ⟨b2, off2 + i * 6 + 5, none⟩ = some (.slice bo bn bc) := HLC.out _ HBW.out 5 _ rfl
            obtain ⟨z, D2, HAC⟩ : ∃ z D2, Hid (actO D ⟨kd, nn, mm, nm, dst, bo, bn, bc, bs⟩ = (z, D2)) := ⟨_, _, rfl⟩
            have HA : Hid _ := three_A HP4.out.1 (fun k e => Nat.le_trans HP4.out.2.1.size e) (alone_hop ⟨kd, nn, mm, nm, dst, bo, bn, bc, bs⟩ (by have := HIL.out; omega) HI2.out.cap HBY.out HBW.out HCC.out)
            rw [HAC.out] at HA
            go_wp2_with fail
            refine Calls.mono HA.out ?_
            rintro e w5 ⟨rfl, hT5, ho5⟩
            have HT5 : Hid (Three (fun k => w1.heap.size ≤ k) w5 ga gb gc D2 D E2 (80 + 3 * i + 1 + 1)) := hT5
            have HB5 : Hid (Below w1.heap.size w1 w5) := HP4.out.2.1.trans (ho5.below (fun _ e => e) HP4.out.2.1.size)
            have HBW5 : Hid (Below w.heap.size w w5) := HB1.out.trans (HB5.out.mono HB1.out.size)
            clear hT5 ho5 l0 l1 l2 l3 l4 l5 HA
            have l0 : w5.cell? ⟨b2, off2 + i * 6, none⟩ = some (.int .i64 kd) := HLC.out _ HBW5.out 0 _ rfl
            have l1 : w5.cell? ⟨b2, off2 + i * 6 + 1, none⟩ = some (.int .i64 nn) := HLC.out _ HBW5.out 1 _ rfl
            have l2 : w5.cell? ⟨b2, off2 + i * 6 + 2, none⟩ = some (.int .i64 mm) := HLC.out _ HBW5.out 2 _ rfl
            have l3 : w5.cell? ⟨b2, off2 + i * 6 + 3, none⟩ = some (.string nm) := HLC.out _ HBW5.out 3 _ rfl
            have l4 : w5.cell? ⟨b2, off2 + i * 6 + 4, none⟩ = some (.string dst) := HLC.out _ HBW5.out 4 _ rfl
            have l5 : w5.cell? ⟨b2, off2 + i * 6 + 5, none⟩ = some (.slice bo bn bc) := HLC.out _ HBW5.out 5 _ rfl
            have HA : Hid _ := three_B HT5.out (fun k e => Nat.le_trans HB5.out.size e) (alone_hop ⟨kd, nn, mm, nm, dst, bo, bn, bc, bs⟩ (by have := HIL.out; omega) HI2.out.cap HBY.out HBW5.out HCC.out)
            rw [HAC.out] at HA
            go_wp2_with fail
            refine Calls.mono HA.out ?_
            rintro e w6 ⟨rfl, hT6, ho6⟩
            have HN : Hid (PJ w1 ga gb gc (i + 1) D2 E2 w6) := ⟨hT6.mono (by omega), HB5.out.trans (ho6.below (fun _ e => e) HB5.out.size), act_cap' HAC.out HI2.out.cap, HP4.out.2.2⟩
            clear hT6 ho6 l0 l1 l2 l3 l4 l5 HA HT5 HB5 HBW5 HBW
            have hinc := HINC.out
            go_wp2_with fail
            go_roundw
            case rel => exact ⟨i + 1, D2, E2, by first | rfl | rw [hinc], HIL.out, HN⟩
            case measure => first | exact meas_up HIL.out | (rw [hinc]; exact meas_up HIL.out)
          · have hin2 : ¬ (i : Int) < (n2 : Int) := by omega
            clear h2
            obtain ⟨w4, E2, hw4, HP4⟩ : ∃ w4 E2, w4 = wr ∧ Hid (Three (fun k => w1.heap.size ≤ k) w4 ga gb gc D D E2 (80 + 3 * i + 1) ∧ Below w1.heap.size w1 w4 ∧ E2.cap = 1000) := ⟨wr, E, rfl, HI2.out.thr.mono (by omega), HI2.out.bel, HI2.out.capE⟩
            rw [← hw4]
            clear hw4
            obtain ⟨D2, HN⟩ : ∃ D2, Hid (PJ w1 ga gb gc (i + 1) D2 E2 w4) := ⟨D, HP4.out.1.mono (by omega), HP4.out.2.1, HI2.out.cap, HP4.out.2.2⟩
            have hinc := HINC.out
            go_wp2_with fail
            go_roundw
            case rel => exact ⟨i + 1, D2, E2, by first | rfl | rw [hinc], HIL.out, HN⟩
            case measure => first | exact meas_up HIL.out | (rw [hinc]; exact meas_up HIL.out)
      · have hi2' : ¬ (i : Int) < 40 := by omega
        clear hall
        have HT8 : Hid (Two (fun k => w1.heap.size ≤ k) wr ga gb D D (80 + 3 * i)) := HI2.out.thr.two
        have HB8 : Hid (Below w1.heap.size w1 wr) := HI2.out.bel
        go_wp2_with fail
        have hsa : ∀ own : Nat → Prop, (∀ k, own k → w1.heap.size ≤ k) → DiskAt own wr ga D (80 + 3 * i) → Calls Try.prog 20 #[.pointer (some ⟨ga, 0, none⟩)] wr fun e w' => e = .returned (.tuple #[]) ∧ DiskAt (grow own wr) w' ga D.start (80 + 3 * i + 1) ∧ Only own wr w' := fun own _ hd => by
          refine (start_at hd).mono ?_
          rintro e w' ⟨rfl, h1, h2⟩
          exact ⟨rfl, h1.mono (fun _ _ e => .inl e) (Nat.le_succ _), h2⟩
        refine (two_A HT8.out (fun k e => Nat.le_trans HB8.out.size e) hsa).mono ?_
        rintro e w9 ⟨rfl, hT9, ho9⟩
        have HT9 : Hid (Two (fun k => w1.heap.size ≤ k) w9 ga gb D.start D (80 + 3 * i + 1)) := hT9
        have HB9 : Hid (Below w1.heap.size w1 w9) := HB8.out.trans (ho9.below (fun _ e => e) HB8.out.size)
        clear hsa hT9 ho9
        go_wp2_with fail
        have hsb : ∀ own : Nat → Prop, (∀ k, own k → w1.heap.size ≤ k) → DiskAt own w9 gb D (80 + 3 * i + 1) → Calls Try.prog 20 #[.pointer (some ⟨gb, 0, none⟩)] w9 fun e w' => e = .returned (.tuple #[]) ∧ DiskAt (grow own w9) w' gb D.start (80 + 3 * i + 1 + 1) ∧ Only own w9 w' := fun own _ hd => by
          refine (start_at hd).mono ?_
          rintro e w' ⟨rfl, h1, h2⟩
          exact ⟨rfl, h1.mono (fun _ _ e => .inl e) (Nat.le_succ _), h2⟩
        refine (two_B HT9.out (fun k e => Nat.le_trans HB9.out.size e) hsb).mono ?_
        rintro e w10 ⟨rfl, hT10, ho10⟩
        obtain ⟨DA3, hA3⟩ : ∃ X, D.start = X := ⟨_, rfl⟩
        have HLL : Hid (DA3.L = DA3.L ∧ DA3.down = DA3.down) := ⟨rfl, rfl⟩
        have HUL : Hid (usedL DA3.L ≤ 140737488355328 ∧ usedL DA3.L ≤ 140737488355328) := by
          have h1 : usedL DA3.L ≤ 1048576 := by
            rw [← hA3]
            have h5 := HT8.out.wfs.1.fits
            rw [HI2.out.cap] at h5
            show usedL D.L ≤ _
            omega
          have h2 : usedL DA3.L ≤ 1048576 := by rw [← HLL.out.1]; exact h1
          exact ⟨by omega, by omega⟩
        rw [hA3] at hT10
        have HT10 : Hid (Two (fun k => w1.heap.size ≤ k) w10 ga gb DA3 DA3 (80 + 3 * i + 1 + 1)) := hT10
        have HB10 : Hid (Below w1.heap.size w1 w10) := HB9.out.trans (ho10.below (fun _ e => e) HB9.out.size)
        have HNN : Hid (80 + 3 * i + 1 + 1 ≤ 1000000) := by show _ ≤ _; have := HI40.out; omega
        have HLI : Hid (DA3.list = DA3.list) := by show _ = _; unfold Dk.list; rw [HLL.out.1, HLL.out.2]
        have HRD : Hid (∀ s, DA3.read s = DA3.read s) := fun s => by unfold Dk.read; rw [HLL.out.1, HLL.out.2]
        have HLN : Hid (DA3.list.length ≤ 1000000) := by
          obtain ⟨PA, PB, h5, -⟩ := HT10.out
          exact Nat.le_trans h5.list_len HNN.out
        have HSM : Hid (∀ s ∈ DA3.list.map bS, s.size ≤ maxLen) := list_small HT10.out.wfs.1
        clear hsb hT10 ho10 hA3 HT9 HB9 HT8 HB8 HI2
        go_wp2_with fail
        obtain ⟨PA, PB, hPA, hPB, -⟩ := HT10.out
        refine (list_at hPA HNN.out).mono ?_
        rintro e w11 ⟨v1, rfl, hrow1, hb11⟩
        obtain ⟨o1, lc1, rfl, hs1⟩ := strs_of hrow1
        have HPA : Hid (DiskAt PA w11 ga DA3 (80 + 3 * i + 1 + 1)) := hPA.grown hb11
        have HPB : Hid (DiskAt PB w11 gb DA3 (80 + 3 * i + 1 + 1)) := hPB.grown hb11
        have HS1 : Hid (StrsAt w11 o1 (DA3.list.map bS)) := hs1
        have HB11 : Hid (Below w1.heap.size w1 w11) := HB10.out.trans (hb11.mono HB10.out.size)
        clear hPA hPB hrow1 hs1 hb11 HT10 HB10
        obtain ⟨ns, HNS⟩ : ∃ l, Hid (DA3.list = l) := ⟨_, rfl⟩
        obtain ⟨nl, HNL⟩ : ∃ n, Hid (ns.length = n) := ⟨_, rfl⟩
        rw [HNS.out] at HS1 ⊢
        rw [HNL.out]
        have HNB2 : Hid (nl ≤ 1000000) := by rw [← HNL.out, ← HNS.out]; exact HLN.out
        go_wp2_with fail
        have hl2 := list_at HPB.out HNN.out
        rw [HNS.out] at hl2
        refine hl2.mono ?_
        rintro e w12 ⟨v2, rfl, hrow2, hb12⟩
        obtain ⟨o2, lc2, rfl, hs2⟩ := strs_of hrow2
        have HPA2 : Hid (DiskAt PA w12 ga DA3 (80 + 3 * i + 1 + 1)) := HPA.out.grown hb12
        have HPB2 : Hid (DiskAt PB w12 gb DA3 (80 + 3 * i + 1 + 1)) := HPB.out.grown hb12
        have HS12 : Hid (StrsAt w12 o1 (ns.map bS)) := HS1.out.below hb12
        have HS22 : Hid (StrsAt w12 o2 (ns.map bS)) := hs2
        have HB12 : Hid (Below w1.heap.size w1 w12) := HB11.out.trans (hb12.mono HB11.out.size)
        clear hl2 hrow2 hs2 hb12 HPA HPB HS1 HB11
        rw [HNL.out]
        go_wp2_with fail
        refine (texts_same o1 o2 nl lc1 lc2 (ns.map bS) w12 (by rw [List.length_map]; exact HNL.out) HS12.out HS22.out (by have := HNB2.out; omega)).mono ?_
        rintro e w13 ⟨rfl, kq, rfl⟩
        have HJ0 : Hid (DiskAt PA (w12.drewN kq) ga DA3 (80 + 3 * i + 1 + 1) ∧ DiskAt PB (w12.drewN kq) gb DA3 (80 + 3 * i + 1 + 1) ∧ StrsAt (w12.drewN kq) o1 (ns.map bS) ∧ Below w1.heap.size w1 (w12.drewN kq)) := ⟨HPA2.out.keep (fun _ _ _ => by rw [heap_drewN]), HPB2.out.keep (fun _ _ _ => by rw [heap_drewN]), HS12.out.below (bel_drewN (Below.refl _ _) kq), bel_drewN HB12.out kq⟩
        clear HPA2 HPB2 HS12 HS22 HB12
        obtain ⟨uu, HUU⟩ : ∃ u, Hid (usedL DA3.L = u) := ⟨_, rfl⟩
        have hua := used_at HJ0.out.1
        have hub := used_at HJ0.out.2.1
        rw [HUU.out] at hua hub
        have HUA : Hid _ := hua
        have HUB : Hid _ := hub
        clear hua hub
        go_wp2_with fail
        refine Calls.mono HUA.out ?_
        rintro e wq ⟨rfl, hwq⟩
        rw [hwq]
        clear hwq
        go_wp2_with fail
        refine Calls.mono HUB.out ?_
        rintro e wq ⟨rfl, hwq⟩
        rw [hwq]
        clear hwq HUA HUB
        go_wp2_with fail
        go_loopw [19, 20, 21, 22, 23] (fun v19 _ _ _ _ wr => ∃ j : Nat, v19 = .int .i64 j ∧ Hid (j ≤ nl) ∧ Hid (DiskAt PA wr ga DA3 (80 + 3 * i + 1 + 1) ∧ DiskAt PB wr gb DA3 (80 + 3 * i + 1 + 1) ∧ StrsAt wr o1 (ns.map bS) ∧ Below w1.heap.size w1 wr)) (fun v19 _ _ _ _ _ => nl - (intOf v19).toNat)
        case atStart => exact ⟨0, rfl, Nat.zero_le _, HJ0⟩
        case round =>
          obtain ⟨j, rfl, HJ, HJI⟩ := hrel
          clear HJ0
          by_cases hj : j < nl
          · obtain ⟨s, hs⟩ : ∃ s, (ns.map bS)[j]? = some s := ⟨(ns.map bS)[j]'(by rw [List.length_map, HNL.out]; exact hj), List.getElem?_eq_getElem _⟩
            obtain ⟨gl, rfl, hcl⟩ := HJI.out.2.2.1 j s hs
            have HSS : Hid (s.size ≤ maxLen) := HSM.out s (by rw [HNS.out]; exact List.mem_of_getElem? hs)
            have hj' : (j : Int) < (nl : Int) := Int.ofNat_lt.2 hj
            have hj0 : (0 : Int) ≤ (j : Int) := Int.natCast_nonneg _
            have HJL : Hid (j < nl) := hj
            have HINC : Hid (wrap64 ((j : Int) + 1) = ((j + 1 : Nat) : Int)) := winc (by have := HNB2.out; omega)
            clear hs hj
            go_wp2_with fail
            refine (read_at HJI.out.1 s HSS.out HUL.out.1).mono ?_
            rintro e w14 ⟨v3, rfl, hown3, hb14⟩
            obtain ⟨rb, hrb⟩ : ∃ r, (DA3.read s).1 = r := ⟨_, rfl⟩
            obtain ⟨re, hre⟩ : ∃ r, (DA3.read s).2 = r := ⟨_, rfl⟩
            have HRE : Hid ((DA3.read s).1 = rb ∧ (DA3.read s).2 = re) := ⟨hrb, hre⟩
            rw [hrb] at hown3
            rw [hre]
            obtain ⟨ro, rc, rfl, hby3, -⟩ := own_bytes hown3
            have HBY3 : Hid (Bytes w14 ro rb.length rb) := hby3
            have HJ14 : Hid (DiskAt PA w14 ga DA3 (80 + 3 * i + 1 + 1) ∧ DiskAt PB w14 gb DA3 (80 + 3 * i + 1 + 1) ∧ StrsAt w14 (some ⟨gl, 0, none⟩) (ns.map bS) ∧ Below w1.heap.size w1 w14) := ⟨HJI.out.1.grown hb14, HJI.out.2.1.grown hb14, HJI.out.2.2.1.below hb14, HJI.out.2.2.2.trans (hb14.mono HJI.out.2.2.2.size)⟩
            have hcl14 : w14.cell? ⟨gl, j, none⟩ = some (.string s) := (hb14.cell (p := ⟨gl, j, none⟩) (World.block_lt_of_cell? wr _ hcl)).trans hcl
            clear hown3 hby3 hb14 hcl hrb hre HJI
            go_wp2_with fail
            have hr4 := read_at HJ14.out.2.1 s HSS.out HUL.out.2
            rw [HRE.out.1, HRE.out.2] at hr4
            refine hr4.mono ?_
            rintro e w15 ⟨v4, rfl, hown4, hb15⟩
            obtain ⟨so, sc, rfl, hby4, -⟩ := own_bytes hown4
            have HJ15 : Hid (DiskAt PA w15 ga DA3 (80 + 3 * i + 1 + 1) ∧ DiskAt PB w15 gb DA3 (80 + 3 * i + 1 + 1) ∧ StrsAt w15 (some ⟨gl, 0, none⟩) (ns.map bS) ∧ Below w1.heap.size w1 w15) := ⟨HJ14.out.1.grown hb15, HJ14.out.2.1.grown hb15, HJ14.out.2.2.1.below hb15, HJ14.out.2.2.2.trans (hb15.mono HJ14.out.2.2.2.size)⟩
            obtain ⟨sj, HSJ⟩ : ∃ s, Hid (bS rb = s) := ⟨_, rfl⟩
            have t1 := str_bS rc (bytes_kept HBY3.out hb15 (Nat.le_refl _))
            have t2 := str_bS sc hby4
            rw [HSJ.out] at t1 t2
            clear hr4 hown4 hby4 hb15 hcl14 HJ14 HBY3 HRE
            have hinc := HINC.out
            go_wp2_with fail
            go_roundw
            case rel => exact ⟨j + 1, by first | rfl | rw [hinc], HJL.out, HJ15⟩
            case measure => first | exact meas_up HJL.out | (rw [hinc]; exact meas_up HJL.out)
          · have hj' : ¬ (j : Int) < (nl : Int) := fun e => hj (Int.ofNat_lt.1 e)
            clear hj
            go_wp2_with fail
            go_ret
            exact ⟨rfl, HB1.out.trans (HJI.out.2.2.2.mono HB1.out.size)⟩
end Go.Proofs.Ytomeghngjiaofaa
