/-
  DiskArmed, its walk.
-/
import Derived.Test.YtomeghngjiaofaaArmT
import Derived.Test.YtomeghngjiaofaaArgsP
import Derived.Deep.CutBlock
import Derived.Deep.DeepCutAuto
namespace Go.Proofs.Ytomeghngjiaofaa
open Go.RowKit
theorem and63 (n : Int) : bits .and .i64 n 63 = n % 64 := by
  have hm : (BitVec.ofInt 64 63).toNat = 2 ^ 6 - 1 := by decide
  have key : (BitVec.ofInt 64 n &&& BitVec.ofInt 64 63).toNat = (n % ((2 ^ 64 : Nat) : Int)).toNat % 2 ^ 6 := by
    rw [BitVec.toNat_and, BitVec.toNat_ofInt, hm, Nat.and_two_pow_sub_one_eq_mod]
  show IntKind.i64.wrap ((BitVec.ofInt 64 n &&& BitVec.ofInt 64 63).toNat : Nat) = n % 64
  rw [key, IntKind.wrap_i64]
  omega
theorem and65535 (n : Int) : bits .and .i64 n 65535 = n % 65536 := by
  have hm : (BitVec.ofInt 64 65535).toNat = 2 ^ 16 - 1 := by decide
  have key : (BitVec.ofInt 64 n &&& BitVec.ofInt 64 65535).toNat = (n % ((2 ^ 64 : Nat) : Int)).toNat % 2 ^ 16 := by
    rw [BitVec.toNat_and, BitVec.toNat_ofInt, hm, Nat.and_two_pow_sub_one_eq_mod]
  show IntKind.i64.wrap ((BitVec.ofInt 64 n &&& BitVec.ofInt 64 65535).toNat : Nat) = n % 65536
  rw [key, IntKind.wrap_i64]
  omega
def sumO (os : List OpV) (i : Nat) : Nat := ((os.take i).map fun o => o.bn).sum
theorem sumO_succ (os : List OpV) (i : Nat) (o : OpV) (h : os[i]? = some o) : sumO os (i + 1) = sumO os i + o.bn := by
  unfold sumO
  rw [List.take_add_one, h]
  simp
theorem sumO_le (os : List OpV) : ∀ i, sumO os i ≤ (os.map fun o => o.bn).sum := by
  intro i
  unfold sumO
  conv => rhs; rw [← List.take_append_drop i os]
  rw [List.map_append, List.sum_append]
  omega
/-- The two disks ahead of step i: the one armed, or both crashed. -/
def Phase (n i : Nat) (keep : Int) (DA DB : Dk) : Prop := (i < n ∧ DB.idle ∧ DA = DB.arm ((n : Int) - (i : Int)) keep) ∨ (n ≤ i ∧ DA = DB ∧ DB.down = true)
/-- .. and ahead of the calls: behind the crash of the other one. -/
def Phase2 (n i : Nat) (keep : Int) (DA DB : Dk) (z : Int) (DA2 DB2 : Dk) (k : Nat) (s t : ByteArray) (b : List UInt8) : Prop :=
  DA.step k s t b = (z, DA2) ∧ DB.step k s t b = (z, DB2) ∧ Phase n (i + 1) keep DA2 DB2 ∧ (z = 6 ↔ n ≤ i + 1)
theorem phase_on {n i : Nat} {keep : Int} {DA DB : Dk} (h : Phase n i keep DA DB) (k : Nat) (s t : ByteArray) (b : List UInt8) :
    (i + 1 = n → ∃ z DA2 DB2, Phase2 n i keep DA (DB.crash keep) z DA2 DB2 k s t b) ∧ (i + 1 ≠ n → ∃ z DA2 DB2, Phase2 n i keep DA DB z DA2 DB2 k s t b) := by
  refine ⟨fun e => ?_, fun e => ?_⟩
  · rcases h with ⟨h1, h2, h3⟩ | ⟨h1, h2, h3⟩
    · have h4 : (n : Int) - (i : Int) = 1 := by omega
      rw [h4] at h3
      have hd := crash_down h2.1 keep
      refine ⟨6, DB.crash keep, DB.crash keep, ?_, step_down hd k s t b, .inr ⟨by omega, rfl, hd⟩, ⟨fun _ => by omega, fun _ => rfl⟩⟩
      rw [h3, step_last h2.1]
      exact step_down hd k s t b
    · omega
  · rcases h with ⟨h1, h2, h3⟩ | ⟨h1, h2, h3⟩
    · have hi := step_idle h2 k s t b
      refine ⟨(DB.step k s t b).1, (DB.step k s t b).2.arm ((n : Int) - (i : Int) - 1) keep, (DB.step k s t b).2, ?_, rfl, .inl ⟨by omega, hi.1, ?_⟩, ⟨fun q => absurd q hi.2, fun q => by omega⟩⟩
      · rw [h3, step_more h2 _ keep (by omega)]
      · congr 1
        omega
    · exact ⟨6, DB, DB, by rw [h2]; exact step_down h3 k s t b, step_down h3 k s t b, .inr ⟨by omega, rfl, h3⟩, ⟨fun _ => by omega, fun _ => rfl⟩⟩
theorem phase_same {n i : Nat} {keep : Int} {DA DB : Dk} (h : Phase n i keep DA DB) : DA.L = DB.L ∧ DA.down = DB.down := by
  rcases h with ⟨h1, h2, h3⟩ | ⟨h1, h2, h3⟩
  · rw [h3]; exact ⟨rfl, rfl⟩
  · rw [h2]; exact ⟨rfl, rfl⟩
def opA (kd nn mm : Int) (nm dst : ByteArray) (bo : Option Addr) (bn bc : Nat) : Array Value := #[.int .i64 kd, .int .i64 nn, .int .i64 mm, .string nm, .string dst, .slice bo bn bc]
structure AI (w1 : World) (ga gb n : Nat) (keep : Int) (os : List OpV) (i : Nat) (DA DB : Dk) (wr : World) : Prop where
  two : Two (fun k => w1.heap.size ≤ k) wr ga gb DA DB (1 + 3 * i)
  ph : Phase n i keep DA DB
  bel : Below w1.heap.size w1 wr
  used : usedL DA.L ≤ sumO os i
theorem Two.wfs {C : Nat → Prop} {w : World} {ga gb : Nat} {DA DB : Dk} {N : Nat} (h : Two C w ga gb DA DB N) : DA.wf ∧ DB.wf := by
  obtain ⟨PA, PB, h1, h2, -⟩ := h
  exact ⟨h1.1, h2.1⟩
theorem low_ofA {w : World} {ao : Option Addr} {n : Nat} {bs : List UInt8} (h : Bytes w ao n bs) : 0 < n → ∀ ad, ao = some ad → ad.block < w.heap.size := low_ofO h
set_option maxRecDepth 100000 in
set_option maxHeartbeats 4000000 in
theorem armed_walk (cap0 : Int) (ao : Option Addr) (n1 c1 b off : Nat) (os : List OpV) (nk keep : Int) (w : World)
    (hO : OpsAt w b off os) (hl1 : os.length = n1) (ha1 : 0 < n1 → ao = some ⟨b, off, none⟩) (hsz : (os.map fun o => o.bn).sum ≤ 1048576) (hc0 : cap0 ≤ 9223372036854775807) (hkp : -9223372036854775808 ≤ keep ∧ keep ≤ 9223372036854775807) :
    Calls Try.prog 6 #[.int .i64 cap0, .slice ao n1 c1, .int .i64 nk, .int .i64 keep] w fun e w' => e = .returned (.bool true) ∧ Below w.heap.size w w' := by
  obtain ⟨c, hc, hcb⟩ : ∃ c : Nat, max cap0 0 = (c : Int) ∧ c ≤ 9223372036854775807 := ⟨(max cap0 0).toNat, by omega, by omega⟩
  obtain ⟨r, hr, hrb⟩ : ∃ r : Nat, bits .and .i64 nk 63 = (r : Int) ∧ r ≤ 63 := ⟨(nk % 64).toNat, by rw [and63]; omega, by omega⟩
  obtain ⟨n, HNR⟩ : ∃ n, Hid (1 + r = n) := ⟨_, rfl⟩
  have hwn : wrap64 (1 + (r : Int)) = (n : Int) := by rw [← HNR.out]; unfold wrap64; omega
  have HNB : Hid (1 ≤ n ∧ n ≤ 64) := by have := HNR.out; exact ⟨by omega, by omega⟩
  obtain ⟨m, HM⟩ : ∃ m, Hid (n - 1 = m) := ⟨_, rfl⟩
  have HWM : Hid (wrap64 ((n : Int) - 1) = (m : Int)) := by show _ = _; rw [← HM.out]; have := HNB.out; unfold wrap64; omega
  have HO : Hid (OpsAt w b off os) := hO
  have HL1 : Hid (os.length = n1) := hl1
  have HA1 : Hid (0 < n1 → ao = some ⟨b, off, none⟩) := ha1
  have HSZ : Hid ((os.map fun o => o.bn).sum ≤ 1048576) := hsz
  have HKP : Hid (-9223372036854775808 ≤ keep ∧ keep ≤ 9223372036854775807) := hkp
  have HC : Hid (max cap0 0 = (c : Int) ∧ c ≤ 9223372036854775807) := ⟨hc, hcb⟩
  clear hO hl1 ha1 hsz hc0 hkp hc hcb hrb
  go_enter Try.func6, Try.ntmps6
  go_wp2_with fail
  refine (shown_any w).mono ?_
  rintro e w1 ⟨rfl, hb1⟩
  have HB1 : Hid (Below w.heap.size w w1) := hb1
  clear hb1
  go_wp2_with fail
  refine (new_at cap0 c w1 HC.out.1 HC.out.2).mono ?_
  rintro e w2 ⟨ga, rfl, -, hd2, hb2⟩
  have HB2 : Hid (Below w1.heap.size w1 w2) := hb2
  have HD2 : Hid (DiskAt (fun k => w1.heap.size ≤ k) w2 ga (Dk.new c) 0) := hd2
  clear hd2 hb2
  go_wp2_with fail
  refine (new_at cap0 c w2 HC.out.1 HC.out.2).mono ?_
  rintro e w3 ⟨gb, rfl, -, hd3, hb3⟩
  have HT3 : Hid (Two (fun k => w1.heap.size ≤ k) w3 ga gb (Dk.new c) (Dk.new c) 0) := ⟨here (fun k => w1.heap.size ≤ k) w2, here (fun k => w2.heap.size ≤ k) w3, HD2.out.now.grown hb3, hd3.now, fun k a q => by have h1 := a.2; have h2 := q.1; omega, fun k a => ⟨a.1, Nat.lt_of_lt_of_le a.2 hb3.size⟩, fun k a => ⟨Nat.le_trans HB2.out.size a.1, a.2⟩⟩
  have HB3 : Hid (Below w1.heap.size w1 w3) := HB2.out.trans (hb3.mono HB2.out.size)
  clear hd3 hb3 HB2 HD2
  go_wp2_with fail
  have harm : ∀ own : Nat → Prop, (∀ k, own k → w1.heap.size ≤ k) → DiskAt own w3 ga (Dk.new c) 0 → Calls Try.prog 32 #[.pointer (some ⟨ga, 0, none⟩), .int .i64 (n : Int), .int .i64 keep] w3 fun e w' => e = .returned (.tuple #[]) ∧ DiskAt (grow own w3) w' ga ((Dk.new c).arm (n : Int) keep) (0 + 1) ∧ Only own w3 w' := fun own _ hd => by
    refine (arm_at hd (n : Int) keep (by have := HNB.out; omega) HKP.out).mono ?_
    rintro e w' ⟨rfl, h1, h2⟩
    exact ⟨rfl, h1.mono (fun _ _ e => .inl e) (by omega), h2⟩
  refine (two_A HT3.out (fun k e => Nat.le_trans HB3.out.size e) harm).mono ?_
  rintro e w4 ⟨rfl, hT4, ho4⟩
  have HI0 : Hid (AI w1 ga gb n keep os 0 ((Dk.new c).arm (n : Int) keep) (Dk.new c) w4) := ⟨hT4, .inl ⟨HNB.out.1, ⟨rfl, rfl, rfl⟩, by simp⟩, HB3.out.trans (ho4.below (fun _ e => e) HB3.out.size), Nat.zero_le _⟩
  clear harm hT4 ho4 HT3 HB3
  go_upto_block 0 with fail
  go_cut [12, 13, 14, 15] (fun _ _ _ _ wx => ∃ (i : Nat) (DA DB : Dk) (wy : World), Hid (i ≤ 60) ∧ Hid (AI w1 ga gb n keep os i DA DB wy) ∧ wy = wx)
  case first =>
    go_wp2_with fail
    go_loopw [12, 13, 14, 15] (fun v12 _ _ _ wr => ∃ (i : Nat) (DA DB : Dk), v12 = .int .i64 i ∧ Hid (i ≤ 60) ∧ Hid (AI w1 ga gb n keep os i DA DB wr)) (fun v12 _ _ _ _ => 60 - (intOf v12).toNat)
    case atStart => exact ⟨0, _, _, rfl, Nat.zero_le 60, HI0⟩
    case round =>
      obtain ⟨i, DA, DB, rfl, HI60, HI⟩ := hrel
      clear HI0
      by_cases hall : i < n1 ∧ i < 60
      · obtain ⟨hi1, hi2⟩ := hall
        obtain ⟨o, ho⟩ : ∃ o, os[i]? = some o := ⟨os[i]'(by rw [HL1.out]; exact hi1), by simp⟩
        obtain rfl := HA1.out (by omega)
        have hBW : Below w.heap.size w wr := HB1.out.trans (HI.out.bel.mono HB1.out.size)
        have HSN : Hid (sumO os (i + 1) = sumO os i + o.bn) := sumO_succ os i o ho
        have HSL : Hid (sumO os (i + 1) ≤ 1048576) := Nat.le_trans (sumO_le os (i + 1)) HSZ.out
        obtain ⟨hoc, hob, hof⟩ := HO.out i o ho
        obtain ⟨kd, nn, mm, nm, dst, bo, bn, bc, bs⟩ := o
        simp only at hob HSN
        have HBY : Hid (Bytes w bo bn bs) := hob
        have HBL : Hid (bs.length = bn) := hob.1
        have HLW : Hid (0 < bn → ∀ ad, bo = some ad → ad.block < w.heap.size) := low_ofA hob
        have HNS : Hid (nm.size ≤ maxLen) := hof.2.2.2.1
        have HDS : Hid (dst.size ≤ maxLen) := hof.2.2.2.2.1
        have HBN : Hid (bn ≤ 9223372036854775807) := Nat.le_trans hof.2.2.2.2.2.1 hof.2.2.2.2.2.2
        have hcl : ∀ j u, (opC ⟨kd, nn, mm, nm, dst, bo, bn, bc, bs⟩)[j]? = some u → wr.cell? ⟨b, off + i * 6 + j, none⟩ = some u := fun j u hu => by
          have h5 := hoc j u hu
          exact (hBW.cell (p := ⟨b, off + i * 6 + j, none⟩) (World.block_lt_of_cell? w _ h5)).trans h5
        have l0 : wr.cell? ⟨b, off + i * 6, none⟩ = some (.int .i64 kd) := hcl 0 _ rfl
        have l1 : wr.cell? ⟨b, off + i * 6 + 1, none⟩ = some (.int .i64 nn) := hcl 1 _ rfl
        have l2 : wr.cell? ⟨b, off + i * 6 + 2, none⟩ = some (.int .i64 mm) := hcl 2 _ rfl
        have l3 : wr.cell? ⟨b, off + i * 6 + 3, none⟩ = some (.string nm) := hcl 3 _ rfl
        have l4 : wr.cell? ⟨b, off + i * 6 + 4, none⟩ = some (.string dst) := hcl 4 _ rfl
        have l5 : wr.cell? ⟨b, off + i * 6 + 5, none⟩ = some (.slice bo bn bc) := hcl 5 _ rfl
        obtain ⟨q, hq, hqb⟩ : ∃ q : Nat, bits .and .i64 kd 65535 = (q : Int) ∧ q ≤ 65535 := ⟨(kd % 65536).toNat, by rw [and65535]; omega, by omega⟩
        obtain ⟨q5, HQ5⟩ : ∃ q5, Hid (q % 5 = q5) := ⟨_, rfl⟩
        have hrem : (q : Int).tmod 5 = (q5 : Int) := by rw [Int.tmod_eq_emod_of_nonneg (by omega)]; have := HQ5.out; omega
        obtain ⟨kx, HKX⟩ : ∃ kx, Hid (1 + q5 = kx) := ⟨_, rfl⟩
        have hwk : wrap64 (1 + (q5 : Int)) = (kx : Int) := by rw [← HKX.out]; have := HQ5.out; unfold wrap64; omega
        have HK5 : Hid (kx = 1 ∨ kx = 2 ∨ kx = 3 ∨ kx = 4 ∨ kx = 5) := by show _ ∨ _; have h1 := HQ5.out; have h2 := HKX.out; omega
        obtain ⟨kb, HKB⟩ : ∃ kb, Hid (wr.heap.size = kb) := ⟨_, rfl⟩
        have hwm := HWM.out
        have HINC : Hid (wrap64 ((i : Int) + 1) = ((i + 1 : Nat) : Int)) := winc (by omega)
        have hi1' : (i : Int) < (n1 : Int) := Int.ofNat_lt.2 hi1
        have hi2' : (i : Int) < 60 := by omega
        have hi0 : (0 : Int) ≤ (i : Int) := Int.natCast_nonneg _
        have HIL : Hid (i < 60) := hi2
        have HT5 : Hid (Two (fun k => w1.heap.size ≤ k ∧ k ≠ kb) (wr.alloc (.cells (opA kx nn mm nm dst bo bn bc) 30)) ga gb DA DB (1 + 3 * i)) := (HI.out.two.now.grown (bel_alloc wr _)).mono (fun k _ e => ⟨e.1, fun q => by have h1 := e.2; have h2 := HKB.out; omega⟩) (Nat.le_refl _)
        have HK5' : Hid ((wr.alloc (.cells (opA kx nn mm nm dst bo bn bc) 30)).heap[kb]? = some (.cells (opA kx nn mm nm dst bo bn bc) 30 (0, 0))) := by rw [← HKB.out]; exact heap_alloc_new wr _
        have HB5 : Hid (Below w1.heap.size w1 (wr.alloc (.cells (opA kx nn mm nm dst bo bn bc) 30))) := HI.out.bel.alloc HI.out.bel.size _
        have HPH : Hid (Phase n i keep DA DB) := HI.out.ph
        have HUS : Hid (usedL DA.L ≤ sumO os i) := HI.out.used
        clear hcl hi1 hi2 ho hBW hoc hob hof hqb
        go_upto_if 65 with fail
        rw [HKB.out]
        go_cut [68] (fun _ wx => ∃ (DB' : Dk) (z : Int) (DA2 DB2 : Dk) (wy : World), Hid (Two (fun k => w1.heap.size ≤ k ∧ k ≠ kb) wy ga gb DA DB' (2 + 3 * i)) ∧ Hid (Phase2 n i keep DA DB' z DA2 DB2 kx nm dst bs) ∧ Hid (usedL DB'.L ≤ usedL DB.L) ∧ Hid (wy.heap[kb]? = some (.cells (opA kx nn mm nm dst bo bn bc) 30 (0, 0))) ∧ Hid (Below w1.heap.size w1 wy) ∧ wy = wx)
        case first =>
          as_aux_lemma =>
            by_cases hcr : i + 1 = n
            · obtain ⟨z, DA2, DB2, hP2⟩ := (phase_on HPH.out kx nm dst bs).1 hcr
              have HP2 : Hid (Phase2 n i keep DA (DB.crash keep) z DA2 DB2 kx nm dst bs) := hP2
              have him : i = m := by have := HM.out; omega
              subst him
              have HUC : Hid (usedL (DB.crash keep).L ≤ usedL DB.L) := crash_used HT5.out.wfs.2 keep
              clear hP2 hcr
              go_wp2_with fail
              have hcc : ∀ own : Nat → Prop, (∀ k, own k → w1.heap.size ≤ k ∧ k ≠ kb) → DiskAt own (wr.alloc (.cells (opA kx nn mm nm dst bo bn bc) 30)) gb DB (1 + 3 * i) → Calls Try.prog 18 #[.pointer (some ⟨gb, 0, none⟩), .int .i64 keep] (wr.alloc (.cells (opA kx nn mm nm dst bo bn bc) 30)) fun e w' => e = .returned (.tuple #[]) ∧ DiskAt (grow own (wr.alloc (.cells (opA kx nn mm nm dst bo bn bc) 30))) w' gb (DB.crash keep) (1 + 3 * i + 1) ∧ Only own (wr.alloc (.cells (opA kx nn mm nm dst bo bn bc) 30)) w' := fun own _ hd => by
                refine (crash_dk hd (by have := HI60.out; omega) keep HKP.out).mono ?_
                rintro e w' ⟨rfl, h1, h2⟩
                exact ⟨rfl, h1.mono (fun _ _ e => e) (Nat.le_succ _), h2⟩
              refine (two_B HT5.out (fun k e => ⟨Nat.le_trans HB5.out.size e, by have h1 := heap_lt HK5'.out; omega⟩) hcc).mono ?_
              rintro e w6 ⟨rfl, hT6, ho6⟩
              have HT6 : Hid (Two (fun k => w1.heap.size ≤ k ∧ k ≠ kb) w6 ga gb DA (DB.crash keep) (2 + 3 * i)) := hT6.mono (fun _ _ e => e) (by omega)
              have HK6 : Hid (w6.heap[kb]? = some (.cells (opA kx nn mm nm dst bo bn bc) 30 (0, 0))) := (ho6.block kb (heap_lt HK5'.out) (fun e => e.2 rfl)).trans HK5'.out
              have HB6 : Hid (Below w1.heap.size w1 w6) := HB5.out.trans (ho6.below (fun _ e => e.1) HB5.out.size)
              clear hcc hT6 ho6
              go_wp2_with fail
              go_meet
              case rel => exact ⟨DB.crash keep, z, DA2, DB2, _, HT6, HP2, HUC, HK6, HB6, rfl⟩
            · obtain ⟨z, DA2, DB2, hP2⟩ := (phase_on HPH.out kx nm dst bs).2 hcr
              have HP2 : Hid (Phase2 n i keep DA DB z DA2 DB2 kx nm dst bs) := hP2
              have him : ¬ (i : Int) = (m : Int) := by have h1 := HM.out; have h2 := HNB.out; omega
              clear hP2 hcr
              go_wp2_with fail
              go_meet
              case rel => exact ⟨DB, z, DA2, DB2, _, HT5.out.mono (fun _ _ e => e) (by omega), HP2, Nat.le_refl _, HK5', HB5, rfl⟩
        case rest =>
          obtain ⟨DB', z, DA2, DB2, w6, HT6, HP2, HUC, HK6, HB6, rfl⟩ := hcut
          have HSA2 : Hid (DA.step kx nm dst bs = (z, DA2)) := HP2.out.1
          have HSB2 : Hid (DB'.step kx nm dst bs = (z, DB2)) := HP2.out.2.1
          have HPH2 : Hid (Phase n (i + 1) keep DA2 DB2) := HP2.out.2.2.1
          have HZ6 : Hid (z = 6 ↔ n ≤ i + 1) := HP2.out.2.2.2
          have HFDA : Hid (usedL DA.pre.L + bn ≤ 140737488355328) := by
            show _ ≤ _
            have h1 := pre_used HT6.out.wfs.1
            have h2 := HUS.out
            have h3 := HSN.out
            have h4 := HSL.out
            omega
          have HFDB : Hid (usedL DB'.pre.L + bn ≤ 140737488355328) := by
            show _ ≤ _
            have h1 := pre_used HT6.out.wfs.2
            have h2 := HUS.out
            have h3 := HSN.out
            have h4 := HSL.out
            have h5 := HUC.out
            have h6 := (phase_same HPH.out).1
            rw [h6] at h2
            omega
          have HUS2 : Hid (usedL DA2.L ≤ sumO os (i + 1)) := by
            show _ ≤ _
            have h1 := step_used HT6.out.wfs.1 kx nm dst bs
            rw [HSA2.out, HBL.out] at h1
            have h2 := HUS.out
            have h3 := HSN.out
            simp only at h1
            omega
          have HBW6 : Hid (Below w.heap.size w w6) := HB1.out.trans (HB6.out.mono HB1.out.size)
          have p0 : w6.cell? ⟨kb, 0, none⟩ = some (.int .i64 (kx : Int)) := by rw [cell_of_row _ _ _ _ _ _ HK6.out]; rfl
          have p3 : w6.cell? ⟨kb, 3, none⟩ = some (.string nm) := by rw [cell_of_row _ _ _ _ _ _ HK6.out]; rfl
          have p4 : w6.cell? ⟨kb, 4, none⟩ = some (.string dst) := by rw [cell_of_row _ _ _ _ _ _ HK6.out]; rfl
          have p5 : w6.cell? ⟨kb, 5, none⟩ = some (.slice bo bn bc) := by rw [cell_of_row _ _ _ _ _ _ HK6.out]; rfl
          clear HT5 HK5' HB5 HP2 HUC HI l0 l1 l2 l3 l4 l5 hrem hwk hq HKX HQ5 HKB
          rcases HK5.out with hkd | hkd | hkd | hkd | hkd
          · as_aux_lemma =>
              subst hkd
              go_wp2_with fail
              have hca : ∀ own : Nat → Prop, (∀ k, own k → w1.heap.size ≤ k ∧ k ≠ kb) → DiskAt own w6 ga DA (2 + 3 * i) → Calls Try.prog 23 #[.pointer (some ⟨ga, 0, none⟩), .string nm] w6 fun e w' => e = .returned (.int .i64 z) ∧ DiskAt (grow own w6) w' ga DA2 (2 + 3 * i + 1) ∧ Only own w6 w' := fun own hown hd => by
                have h5 := create_at hd (by have := HI60.out; omega) nm HNS.out
                rw [show DA.create nm = (z, DA2) from HSA2.out] at h5
                exact h5
              refine (two_A HT6.out (fun k e => ⟨Nat.le_trans HB6.out.size e, by have h1 := heap_lt HK6.out; omega⟩) hca).mono ?_
              rintro e w7 ⟨rfl, hT7, ho7⟩
              have HT7 : Hid (Two (fun k => w1.heap.size ≤ k ∧ k ≠ kb) w7 ga gb DA2 DB' (2 + 3 * i + 1)) := hT7
              have HK7 : Hid (w7.heap[kb]? = some (.cells (opA 1 nn mm nm dst bo bn bc) 30 (0, 0))) := (ho7.block kb (heap_lt HK6.out) (fun e => e.2 rfl)).trans HK6.out
              have HB7 : Hid (Below w1.heap.size w1 w7) := HB6.out.trans (ho7.below (fun _ e => e.1) HB6.out.size)
              have HBW7 : Hid (Below w.heap.size w w7) := HB1.out.trans (HB7.out.mono HB1.out.size)
              clear hca hT7 ho7 HT6 HK6 HB6 HBW6 p3 p4 p5
              have p3 : w7.cell? ⟨kb, 3, none⟩ = some (.string nm) := by rw [cell_of_row _ _ _ _ _ _ HK7.out]; rfl
              have p4 : w7.cell? ⟨kb, 4, none⟩ = some (.string dst) := by rw [cell_of_row _ _ _ _ _ _ HK7.out]; rfl
              have p5 : w7.cell? ⟨kb, 5, none⟩ = some (.slice bo bn bc) := by rw [cell_of_row _ _ _ _ _ _ HK7.out]; rfl
              go_wp2_with fail
              have hcb : ∀ own : Nat → Prop, (∀ k, own k → w1.heap.size ≤ k ∧ k ≠ kb) → DiskAt own w7 gb DB' (2 + 3 * i + 1) → Calls Try.prog 23 #[.pointer (some ⟨gb, 0, none⟩), .string nm] w7 fun e w' => e = .returned (.int .i64 z) ∧ DiskAt (grow own w7) w' gb DB2 (2 + 3 * i + 1 + 1) ∧ Only own w7 w' := fun own hown hd => by
                have h5 := create_at hd (by have := HI60.out; omega) nm HNS.out
                rw [show DB'.create nm = (z, DB2) from HSB2.out] at h5
                exact h5
              refine (two_B HT7.out (fun k e => ⟨Nat.le_trans HB7.out.size e, by have h1 := heap_lt HK7.out; omega⟩) hcb).mono ?_
              rintro e w8 ⟨rfl, hT8, ho8⟩
              have HT8 : Hid (Two (fun k => w1.heap.size ≤ k ∧ k ≠ kb) w8 ga gb DA2 DB2 (2 + 3 * i + 1 + 1)) := hT8
              have HB8 : Hid (Below w1.heap.size w1 w8) := HB7.out.trans (ho8.below (fun _ e => e.1) HB7.out.size)
              clear hcb hT8 ho8 HT7 HK7 HB7 HBW7 p3 p4 p5
              have hph := phase_same HPH2.out
              obtain ⟨dn, hdn⟩ : ∃ dn, DA2.down = dn := ⟨_, rfl⟩
              obtain ⟨u, hu⟩ : ∃ u, usedL DA2.L = u := ⟨_, rfl⟩
              obtain ⟨PA, PB, hA, hB, -, -, -⟩ := HT8.out
              have HUA := up_at hA
              have HUB := up_at hB
              have HSA := used_at hA
              have HSB := used_at hB
              rw [hdn] at HUA
              rw [← hph.2, hdn] at HUB
              rw [hu] at HSA
              rw [← hph.1, hu] at HSB
              have HUA' : Hid _ := HUA
              have HUB' : Hid _ := HUB
              have HSA' : Hid _ := HSA
              have HSB' : Hid _ := HSB
              clear HUA HUB HSA HSB hA hB hph hdn hu
              have HAI : Hid (AI w1 ga gb n keep os (i + 1) DA2 DB2 w8) := ⟨HT8.out.mono (fun _ _ e => e.1) (by omega), HPH2.out, HB8.out, HUS2.out⟩
              have hinc := HINC.out
              by_cases hz : z = 6
              · have hge : (m : Int) ≤ (i : Int) := by have h1 := HZ6.out.1 hz; have h2 := HM.out; omega
                subst hz
                go_wp2_with fail
                refine Calls.mono HUA'.out ?_
                rintro e wq ⟨rfl, hwq⟩
                rw [hwq]
                clear hwq
                go_wp2_with fail
                refine Calls.mono HUB'.out ?_
                rintro e wq ⟨rfl, hwq⟩
                rw [hwq]
                clear hwq
                go_wp2_with fail
                refine Calls.mono HSA'.out ?_
                rintro e wq ⟨rfl, hwq⟩
                rw [hwq]
                clear hwq
                go_wp2_with fail
                refine Calls.mono HSB'.out ?_
                rintro e wq ⟨rfl, hwq⟩
                rw [hwq]
                clear hwq
                go_wp2_with fail
                go_roundw
                case rel => exact ⟨i + 1, DA2, DB2, by first | rfl | rw [hinc], HIL.out, HAI⟩
                case measure => first | exact meas_up HIL.out | (rw [hinc]; exact meas_up HIL.out)
              · have hlt : (i : Int) < (m : Int) := by
                  have h1 : ¬ n ≤ i + 1 := fun e => hz (HZ6.out.2 e)
                  have h2 := HM.out
                  omega
                have hz2 : (z == 6) = false := by simpa using hz
                have hz3 : decide ((m : Int) ≤ (i : Int)) = false := decide_eq_false (by omega)
                go_wp2_with fail
                refine Calls.mono HUA'.out ?_
                rintro e wq ⟨rfl, hwq⟩
                rw [hwq]
                clear hwq
                go_wp2_with fail
                refine Calls.mono HUB'.out ?_
                rintro e wq ⟨rfl, hwq⟩
                rw [hwq]
                clear hwq
                go_wp2_with fail
                refine Calls.mono HSA'.out ?_
                rintro e wq ⟨rfl, hwq⟩
                rw [hwq]
                clear hwq
                go_wp2_with fail
                refine Calls.mono HSB'.out ?_
                rintro e wq ⟨rfl, hwq⟩
                rw [hwq]
                clear hwq
                go_wp2_with fail
                go_roundw
                case rel => exact ⟨i + 1, DA2, DB2, by first | rfl | rw [hinc], HIL.out, HAI⟩
                case measure => first | exact meas_up HIL.out | (rw [hinc]; exact meas_up HIL.out)
          · as_aux_lemma =>
              subst hkd
              go_wp2_with fail
              have hca : ∀ own : Nat → Prop, (∀ k, own k → w1.heap.size ≤ k ∧ k ≠ kb) → DiskAt own w6 ga DA (2 + 3 * i) → Calls Try.prog 24 #[.pointer (some ⟨ga, 0, none⟩), .string nm, .slice bo bn bc] w6 fun e w' => e = .returned (.int .i64 z) ∧ DiskAt (grow own w6) w' ga DA2 (2 + 3 * i + 1) ∧ Only own w6 w' := fun own hown hd => by
                have h5 := append_at hd (by have := HI60.out; omega) nm HNS.out bo bn bc bs (bytes_kept HBY.out HBW6.out (Nat.le_refl _)) (fun hp ad h e => by have h1 := HLW.out hp ad h; have h2 := HB1.out.size; have h3 := (hown _ e).1; omega) HBN.out (.inr (by have h1 := HFDA.out; omega))
                rw [show DA.append nm bs = (z, DA2) from HSA2.out] at h5
                exact h5
              refine (two_A HT6.out (fun k e => ⟨Nat.le_trans HB6.out.size e, by have h1 := heap_lt HK6.out; omega⟩) hca).mono ?_
              rintro e w7 ⟨rfl, hT7, ho7⟩
              have HT7 : Hid (Two (fun k => w1.heap.size ≤ k ∧ k ≠ kb) w7 ga gb DA2 DB' (2 + 3 * i + 1)) := hT7
              have HK7 : Hid (w7.heap[kb]? = some (.cells (opA 2 nn mm nm dst bo bn bc) 30 (0, 0))) := (ho7.block kb (heap_lt HK6.out) (fun e => e.2 rfl)).trans HK6.out
              have HB7 : Hid (Below w1.heap.size w1 w7) := HB6.out.trans (ho7.below (fun _ e => e.1) HB6.out.size)
              have HBW7 : Hid (Below w.heap.size w w7) := HB1.out.trans (HB7.out.mono HB1.out.size)
              clear hca hT7 ho7 HT6 HK6 HB6 HBW6 p3 p4 p5
              have p3 : w7.cell? ⟨kb, 3, none⟩ = some (.string nm) := by rw [cell_of_row _ _ _ _ _ _ HK7.out]; rfl
              have p4 : w7.cell? ⟨kb, 4, none⟩ = some (.string dst) := by rw [cell_of_row _ _ _ _ _ _ HK7.out]; rfl
              have p5 : w7.cell? ⟨kb, 5, none⟩ = some (.slice bo bn bc) := by rw [cell_of_row _ _ _ _ _ _ HK7.out]; rfl
              go_wp2_with fail
              have hcb : ∀ own : Nat → Prop, (∀ k, own k → w1.heap.size ≤ k ∧ k ≠ kb) → DiskAt own w7 gb DB' (2 + 3 * i + 1) → Calls Try.prog 24 #[.pointer (some ⟨gb, 0, none⟩), .string nm, .slice bo bn bc] w7 fun e w' => e = .returned (.int .i64 z) ∧ DiskAt (grow own w7) w' gb DB2 (2 + 3 * i + 1 + 1) ∧ Only own w7 w' := fun own hown hd => by
                have h5 := append_at hd (by have := HI60.out; omega) nm HNS.out bo bn bc bs (bytes_kept HBY.out HBW7.out (Nat.le_refl _)) (fun hp ad h e => by have h1 := HLW.out hp ad h; have h2 := HB1.out.size; have h3 := (hown _ e).1; omega) HBN.out (.inr (by have h1 := HFDB.out; omega))
                rw [show DB'.append nm bs = (z, DB2) from HSB2.out] at h5
                exact h5
              refine (two_B HT7.out (fun k e => ⟨Nat.le_trans HB7.out.size e, by have h1 := heap_lt HK7.out; omega⟩) hcb).mono ?_
              rintro e w8 ⟨rfl, hT8, ho8⟩
              have HT8 : Hid (Two (fun k => w1.heap.size ≤ k ∧ k ≠ kb) w8 ga gb DA2 DB2 (2 + 3 * i + 1 + 1)) := hT8
              have HB8 : Hid (Below w1.heap.size w1 w8) := HB7.out.trans (ho8.below (fun _ e => e.1) HB7.out.size)
              clear hcb hT8 ho8 HT7 HK7 HB7 HBW7 p3 p4 p5
              have hph := phase_same HPH2.out
              obtain ⟨dn, hdn⟩ : ∃ dn, DA2.down = dn := ⟨_, rfl⟩
              obtain ⟨u, hu⟩ : ∃ u, usedL DA2.L = u := ⟨_, rfl⟩
              obtain ⟨PA, PB, hA, hB, -, -, -⟩ := HT8.out
              have HUA := up_at hA
              have HUB := up_at hB
              have HSA := used_at hA
              have HSB := used_at hB
              rw [hdn] at HUA
              rw [← hph.2, hdn] at HUB
              rw [hu] at HSA
              rw [← hph.1, hu] at HSB
              have HUA' : Hid _ := HUA
              have HUB' : Hid _ := HUB
              have HSA' : Hid _ := HSA
              have HSB' : Hid _ := HSB
              clear HUA HUB HSA HSB hA hB hph hdn hu
              have HAI : Hid (AI w1 ga gb n keep os (i + 1) DA2 DB2 w8) := ⟨HT8.out.mono (fun _ _ e => e.1) (by omega), HPH2.out, HB8.out, HUS2.out⟩
              have hinc := HINC.out
              by_cases hz : z = 6
              · have hge : (m : Int) ≤ (i : Int) := by have h1 := HZ6.out.1 hz; have h2 := HM.out; omega
                subst hz
                go_wp2_with fail
                refine Calls.mono HUA'.out ?_
                rintro e wq ⟨rfl, hwq⟩
                rw [hwq]
                clear hwq
                go_wp2_with fail
                refine Calls.mono HUB'.out ?_
                rintro e wq ⟨rfl, hwq⟩
                rw [hwq]
                clear hwq
                go_wp2_with fail
                refine Calls.mono HSA'.out ?_
                rintro e wq ⟨rfl, hwq⟩
                rw [hwq]
                clear hwq
                go_wp2_with fail
                refine Calls.mono HSB'.out ?_
                rintro e wq ⟨rfl, hwq⟩
                rw [hwq]
                clear hwq
                go_wp2_with fail
                go_roundw
                case rel => exact ⟨i + 1, DA2, DB2, by first | rfl | rw [hinc], HIL.out, HAI⟩
                case measure => first | exact meas_up HIL.out | (rw [hinc]; exact meas_up HIL.out)
              · have hlt : (i : Int) < (m : Int) := by
                  have h1 : ¬ n ≤ i + 1 := fun e => hz (HZ6.out.2 e)
                  have h2 := HM.out
                  omega
                have hz2 : (z == 6) = false := by simpa using hz
                have hz3 : decide ((m : Int) ≤ (i : Int)) = false := decide_eq_false (by omega)
                go_wp2_with fail
                refine Calls.mono HUA'.out ?_
                rintro e wq ⟨rfl, hwq⟩
                rw [hwq]
                clear hwq
                go_wp2_with fail
                refine Calls.mono HUB'.out ?_
                rintro e wq ⟨rfl, hwq⟩
                rw [hwq]
                clear hwq
                go_wp2_with fail
                refine Calls.mono HSA'.out ?_
                rintro e wq ⟨rfl, hwq⟩
                rw [hwq]
                clear hwq
                go_wp2_with fail
                refine Calls.mono HSB'.out ?_
                rintro e wq ⟨rfl, hwq⟩
                rw [hwq]
                clear hwq
                go_wp2_with fail
                go_roundw
                case rel => exact ⟨i + 1, DA2, DB2, by first | rfl | rw [hinc], HIL.out, HAI⟩
                case measure => first | exact meas_up HIL.out | (rw [hinc]; exact meas_up HIL.out)
          · as_aux_lemma =>
              subst hkd
              go_wp2_with fail
              have hca : ∀ own : Nat → Prop, (∀ k, own k → w1.heap.size ≤ k ∧ k ≠ kb) → DiskAt own w6 ga DA (2 + 3 * i) → Calls Try.prog 25 #[.pointer (some ⟨ga, 0, none⟩), .string nm] w6 fun e w' => e = .returned (.int .i64 z) ∧ DiskAt (grow own w6) w' ga DA2 (2 + 3 * i + 1) ∧ Only own w6 w' := fun own hown hd => by
                have h5 := sync_at hd (by have := HI60.out; omega) nm HNS.out
                rw [show DA.sync nm = (z, DA2) from HSA2.out] at h5
                exact h5
              refine (two_A HT6.out (fun k e => ⟨Nat.le_trans HB6.out.size e, by have h1 := heap_lt HK6.out; omega⟩) hca).mono ?_
              rintro e w7 ⟨rfl, hT7, ho7⟩
              have HT7 : Hid (Two (fun k => w1.heap.size ≤ k ∧ k ≠ kb) w7 ga gb DA2 DB' (2 + 3 * i + 1)) := hT7
              have HK7 : Hid (w7.heap[kb]? = some (.cells (opA 3 nn mm nm dst bo bn bc) 30 (0, 0))) := (ho7.block kb (heap_lt HK6.out) (fun e => e.2 rfl)).trans HK6.out
              have HB7 : Hid (Below w1.heap.size w1 w7) := HB6.out.trans (ho7.below (fun _ e => e.1) HB6.out.size)
              have HBW7 : Hid (Below w.heap.size w w7) := HB1.out.trans (HB7.out.mono HB1.out.size)
              clear hca hT7 ho7 HT6 HK6 HB6 HBW6 p3 p4 p5
              have p3 : w7.cell? ⟨kb, 3, none⟩ = some (.string nm) := by rw [cell_of_row _ _ _ _ _ _ HK7.out]; rfl
              have p4 : w7.cell? ⟨kb, 4, none⟩ = some (.string dst) := by rw [cell_of_row _ _ _ _ _ _ HK7.out]; rfl
              have p5 : w7.cell? ⟨kb, 5, none⟩ = some (.slice bo bn bc) := by rw [cell_of_row _ _ _ _ _ _ HK7.out]; rfl
              go_wp2_with fail
              have hcb : ∀ own : Nat → Prop, (∀ k, own k → w1.heap.size ≤ k ∧ k ≠ kb) → DiskAt own w7 gb DB' (2 + 3 * i + 1) → Calls Try.prog 25 #[.pointer (some ⟨gb, 0, none⟩), .string nm] w7 fun e w' => e = .returned (.int .i64 z) ∧ DiskAt (grow own w7) w' gb DB2 (2 + 3 * i + 1 + 1) ∧ Only own w7 w' := fun own hown hd => by
                have h5 := sync_at hd (by have := HI60.out; omega) nm HNS.out
                rw [show DB'.sync nm = (z, DB2) from HSB2.out] at h5
                exact h5
              refine (two_B HT7.out (fun k e => ⟨Nat.le_trans HB7.out.size e, by have h1 := heap_lt HK7.out; omega⟩) hcb).mono ?_
              rintro e w8 ⟨rfl, hT8, ho8⟩
              have HT8 : Hid (Two (fun k => w1.heap.size ≤ k ∧ k ≠ kb) w8 ga gb DA2 DB2 (2 + 3 * i + 1 + 1)) := hT8
              have HB8 : Hid (Below w1.heap.size w1 w8) := HB7.out.trans (ho8.below (fun _ e => e.1) HB7.out.size)
              clear hcb hT8 ho8 HT7 HK7 HB7 HBW7 p3 p4 p5
              have hph := phase_same HPH2.out
              obtain ⟨dn, hdn⟩ : ∃ dn, DA2.down = dn := ⟨_, rfl⟩
              obtain ⟨u, hu⟩ : ∃ u, usedL DA2.L = u := ⟨_, rfl⟩
              obtain ⟨PA, PB, hA, hB, -, -, -⟩ := HT8.out
              have HUA := up_at hA
              have HUB := up_at hB
              have HSA := used_at hA
              have HSB := used_at hB
              rw [hdn] at HUA
              rw [← hph.2, hdn] at HUB
              rw [hu] at HSA
              rw [← hph.1, hu] at HSB
              have HUA' : Hid _ := HUA
              have HUB' : Hid _ := HUB
              have HSA' : Hid _ := HSA
              have HSB' : Hid _ := HSB
              clear HUA HUB HSA HSB hA hB hph hdn hu
              have HAI : Hid (AI w1 ga gb n keep os (i + 1) DA2 DB2 w8) := ⟨HT8.out.mono (fun _ _ e => e.1) (by omega), HPH2.out, HB8.out, HUS2.out⟩
              have hinc := HINC.out
              by_cases hz : z = 6
              · have hge : (m : Int) ≤ (i : Int) := by have h1 := HZ6.out.1 hz; have h2 := HM.out; omega
                subst hz
                go_wp2_with fail
                refine Calls.mono HUA'.out ?_
                rintro e wq ⟨rfl, hwq⟩
                rw [hwq]
                clear hwq
                go_wp2_with fail
                refine Calls.mono HUB'.out ?_
                rintro e wq ⟨rfl, hwq⟩
                rw [hwq]
                clear hwq
                go_wp2_with fail
                refine Calls.mono HSA'.out ?_
                rintro e wq ⟨rfl, hwq⟩
                rw [hwq]
                clear hwq
                go_wp2_with fail
                refine Calls.mono HSB'.out ?_
                rintro e wq ⟨rfl, hwq⟩
                rw [hwq]
                clear hwq
                go_wp2_with fail
                go_roundw
                case rel => exact ⟨i + 1, DA2, DB2, by first | rfl | rw [hinc], HIL.out, HAI⟩
                case measure => first | exact meas_up HIL.out | (rw [hinc]; exact meas_up HIL.out)
              · have hlt : (i : Int) < (m : Int) := by
                  have h1 : ¬ n ≤ i + 1 := fun e => hz (HZ6.out.2 e)
                  have h2 := HM.out
                  omega
                have hz2 : (z == 6) = false := by simpa using hz
                have hz3 : decide ((m : Int) ≤ (i : Int)) = false := decide_eq_false (by omega)
                go_wp2_with fail
                refine Calls.mono HUA'.out ?_
                rintro e wq ⟨rfl, hwq⟩
                rw [hwq]
                clear hwq
                go_wp2_with fail
                refine Calls.mono HUB'.out ?_
                rintro e wq ⟨rfl, hwq⟩
                rw [hwq]
                clear hwq
                go_wp2_with fail
                refine Calls.mono HSA'.out ?_
                rintro e wq ⟨rfl, hwq⟩
                rw [hwq]
                clear hwq
                go_wp2_with fail
                refine Calls.mono HSB'.out ?_
                rintro e wq ⟨rfl, hwq⟩
                rw [hwq]
                clear hwq
                go_wp2_with fail
                go_roundw
                case rel => exact ⟨i + 1, DA2, DB2, by first | rfl | rw [hinc], HIL.out, HAI⟩
                case measure => first | exact meas_up HIL.out | (rw [hinc]; exact meas_up HIL.out)
          · as_aux_lemma =>
              subst hkd
              go_wp2_with fail
              have hca : ∀ own : Nat → Prop, (∀ k, own k → w1.heap.size ≤ k ∧ k ≠ kb) → DiskAt own w6 ga DA (2 + 3 * i) → Calls Try.prog 26 #[.pointer (some ⟨ga, 0, none⟩), .string nm, .string dst] w6 fun e w' => e = .returned (.int .i64 z) ∧ DiskAt (grow own w6) w' ga DA2 (2 + 3 * i + 1) ∧ Only own w6 w' := fun own hown hd => by
                have h5 := rename_at hd (by have := HI60.out; omega) nm dst HNS.out HDS.out
                rw [show DA.rename nm dst = (z, DA2) from HSA2.out] at h5
                exact h5
              refine (two_A HT6.out (fun k e => ⟨Nat.le_trans HB6.out.size e, by have h1 := heap_lt HK6.out; omega⟩) hca).mono ?_
              rintro e w7 ⟨rfl, hT7, ho7⟩
              have HT7 : Hid (Two (fun k => w1.heap.size ≤ k ∧ k ≠ kb) w7 ga gb DA2 DB' (2 + 3 * i + 1)) := hT7
              have HK7 : Hid (w7.heap[kb]? = some (.cells (opA 4 nn mm nm dst bo bn bc) 30 (0, 0))) := (ho7.block kb (heap_lt HK6.out) (fun e => e.2 rfl)).trans HK6.out
              have HB7 : Hid (Below w1.heap.size w1 w7) := HB6.out.trans (ho7.below (fun _ e => e.1) HB6.out.size)
              have HBW7 : Hid (Below w.heap.size w w7) := HB1.out.trans (HB7.out.mono HB1.out.size)
              clear hca hT7 ho7 HT6 HK6 HB6 HBW6 p3 p4 p5
              have p3 : w7.cell? ⟨kb, 3, none⟩ = some (.string nm) := by rw [cell_of_row _ _ _ _ _ _ HK7.out]; rfl
              have p4 : w7.cell? ⟨kb, 4, none⟩ = some (.string dst) := by rw [cell_of_row _ _ _ _ _ _ HK7.out]; rfl
              have p5 : w7.cell? ⟨kb, 5, none⟩ = some (.slice bo bn bc) := by rw [cell_of_row _ _ _ _ _ _ HK7.out]; rfl
              go_wp2_with fail
              have hcb : ∀ own : Nat → Prop, (∀ k, own k → w1.heap.size ≤ k ∧ k ≠ kb) → DiskAt own w7 gb DB' (2 + 3 * i + 1) → Calls Try.prog 26 #[.pointer (some ⟨gb, 0, none⟩), .string nm, .string dst] w7 fun e w' => e = .returned (.int .i64 z) ∧ DiskAt (grow own w7) w' gb DB2 (2 + 3 * i + 1 + 1) ∧ Only own w7 w' := fun own hown hd => by
                have h5 := rename_at hd (by have := HI60.out; omega) nm dst HNS.out HDS.out
                rw [show DB'.rename nm dst = (z, DB2) from HSB2.out] at h5
                exact h5
              refine (two_B HT7.out (fun k e => ⟨Nat.le_trans HB7.out.size e, by have h1 := heap_lt HK7.out; omega⟩) hcb).mono ?_
              rintro e w8 ⟨rfl, hT8, ho8⟩
              have HT8 : Hid (Two (fun k => w1.heap.size ≤ k ∧ k ≠ kb) w8 ga gb DA2 DB2 (2 + 3 * i + 1 + 1)) := hT8
              have HB8 : Hid (Below w1.heap.size w1 w8) := HB7.out.trans (ho8.below (fun _ e => e.1) HB7.out.size)
              clear hcb hT8 ho8 HT7 HK7 HB7 HBW7 p3 p4 p5
              have hph := phase_same HPH2.out
              obtain ⟨dn, hdn⟩ : ∃ dn, DA2.down = dn := ⟨_, rfl⟩
              obtain ⟨u, hu⟩ : ∃ u, usedL DA2.L = u := ⟨_, rfl⟩
              obtain ⟨PA, PB, hA, hB, -, -, -⟩ := HT8.out
              have HUA := up_at hA
              have HUB := up_at hB
              have HSA := used_at hA
              have HSB := used_at hB
              rw [hdn] at HUA
              rw [← hph.2, hdn] at HUB
              rw [hu] at HSA
              rw [← hph.1, hu] at HSB
              have HUA' : Hid _ := HUA
              have HUB' : Hid _ := HUB
              have HSA' : Hid _ := HSA
              have HSB' : Hid _ := HSB
              clear HUA HUB HSA HSB hA hB hph hdn hu
              have HAI : Hid (AI w1 ga gb n keep os (i + 1) DA2 DB2 w8) := ⟨HT8.out.mono (fun _ _ e => e.1) (by omega), HPH2.out, HB8.out, HUS2.out⟩
              have hinc := HINC.out
              by_cases hz : z = 6
              · have hge : (m : Int) ≤ (i : Int) := by have h1 := HZ6.out.1 hz; have h2 := HM.out; omega
                subst hz
                go_wp2_with fail
                refine Calls.mono HUA'.out ?_
                rintro e wq ⟨rfl, hwq⟩
                rw [hwq]
                clear hwq
                go_wp2_with fail
                refine Calls.mono HUB'.out ?_
                rintro e wq ⟨rfl, hwq⟩
                rw [hwq]
                clear hwq
                go_wp2_with fail
                refine Calls.mono HSA'.out ?_
                rintro e wq ⟨rfl, hwq⟩
                rw [hwq]
                clear hwq
                go_wp2_with fail
                refine Calls.mono HSB'.out ?_
                rintro e wq ⟨rfl, hwq⟩
                rw [hwq]
                clear hwq
                go_wp2_with fail
                go_roundw
                case rel => exact ⟨i + 1, DA2, DB2, by first | rfl | rw [hinc], HIL.out, HAI⟩
                case measure => first | exact meas_up HIL.out | (rw [hinc]; exact meas_up HIL.out)
              · have hlt : (i : Int) < (m : Int) := by
                  have h1 : ¬ n ≤ i + 1 := fun e => hz (HZ6.out.2 e)
                  have h2 := HM.out
                  omega
                have hz2 : (z == 6) = false := by simpa using hz
                have hz3 : decide ((m : Int) ≤ (i : Int)) = false := decide_eq_false (by omega)
                go_wp2_with fail
                refine Calls.mono HUA'.out ?_
                rintro e wq ⟨rfl, hwq⟩
                rw [hwq]
                clear hwq
                go_wp2_with fail
                refine Calls.mono HUB'.out ?_
                rintro e wq ⟨rfl, hwq⟩
                rw [hwq]
                clear hwq
                go_wp2_with fail
                refine Calls.mono HSA'.out ?_
                rintro e wq ⟨rfl, hwq⟩
                rw [hwq]
                clear hwq
                go_wp2_with fail
                refine Calls.mono HSB'.out ?_
                rintro e wq ⟨rfl, hwq⟩
                rw [hwq]
                clear hwq
                go_wp2_with fail
                go_roundw
                case rel => exact ⟨i + 1, DA2, DB2, by first | rfl | rw [hinc], HIL.out, HAI⟩
                case measure => first | exact meas_up HIL.out | (rw [hinc]; exact meas_up HIL.out)
          · as_aux_lemma =>
              subst hkd
              go_wp2_with fail
              have hca : ∀ own : Nat → Prop, (∀ k, own k → w1.heap.size ≤ k ∧ k ≠ kb) → DiskAt own w6 ga DA (2 + 3 * i) → Calls Try.prog 27 #[.pointer (some ⟨ga, 0, none⟩), .string nm] w6 fun e w' => e = .returned (.int .i64 z) ∧ DiskAt (grow own w6) w' ga DA2 (2 + 3 * i + 1) ∧ Only own w6 w' := fun own hown hd => by
                have h5 := delete_at hd (by have := HI60.out; omega) nm HNS.out
                rw [show DA.delete nm = (z, DA2) from HSA2.out] at h5
                exact h5
              refine (two_A HT6.out (fun k e => ⟨Nat.le_trans HB6.out.size e, by have h1 := heap_lt HK6.out; omega⟩) hca).mono ?_
              rintro e w7 ⟨rfl, hT7, ho7⟩
              have HT7 : Hid (Two (fun k => w1.heap.size ≤ k ∧ k ≠ kb) w7 ga gb DA2 DB' (2 + 3 * i + 1)) := hT7
              have HK7 : Hid (w7.heap[kb]? = some (.cells (opA 5 nn mm nm dst bo bn bc) 30 (0, 0))) := (ho7.block kb (heap_lt HK6.out) (fun e => e.2 rfl)).trans HK6.out
              have HB7 : Hid (Below w1.heap.size w1 w7) := HB6.out.trans (ho7.below (fun _ e => e.1) HB6.out.size)
              have HBW7 : Hid (Below w.heap.size w w7) := HB1.out.trans (HB7.out.mono HB1.out.size)
              clear hca hT7 ho7 HT6 HK6 HB6 HBW6 p3 p4 p5
              have p3 : w7.cell? ⟨kb, 3, none⟩ = some (.string nm) := by rw [cell_of_row _ _ _ _ _ _ HK7.out]; rfl
              have p4 : w7.cell? ⟨kb, 4, none⟩ = some (.string dst) := by rw [cell_of_row _ _ _ _ _ _ HK7.out]; rfl
              have p5 : w7.cell? ⟨kb, 5, none⟩ = some (.slice bo bn bc) := by rw [cell_of_row _ _ _ _ _ _ HK7.out]; rfl
              go_wp2_with fail
              have hcb : ∀ own : Nat → Prop, (∀ k, own k → w1.heap.size ≤ k ∧ k ≠ kb) → DiskAt own w7 gb DB' (2 + 3 * i + 1) → Calls Try.prog 27 #[.pointer (some ⟨gb, 0, none⟩), .string nm] w7 fun e w' => e = .returned (.int .i64 z) ∧ DiskAt (grow own w7) w' gb DB2 (2 + 3 * i + 1 + 1) ∧ Only own w7 w' := fun own hown hd => by
                have h5 := delete_at hd (by have := HI60.out; omega) nm HNS.out
                rw [show DB'.delete nm = (z, DB2) from HSB2.out] at h5
                exact h5
              refine (two_B HT7.out (fun k e => ⟨Nat.le_trans HB7.out.size e, by have h1 := heap_lt HK7.out; omega⟩) hcb).mono ?_
              rintro e w8 ⟨rfl, hT8, ho8⟩
              have HT8 : Hid (Two (fun k => w1.heap.size ≤ k ∧ k ≠ kb) w8 ga gb DA2 DB2 (2 + 3 * i + 1 + 1)) := hT8
              have HB8 : Hid (Below w1.heap.size w1 w8) := HB7.out.trans (ho8.below (fun _ e => e.1) HB7.out.size)
              clear hcb hT8 ho8 HT7 HK7 HB7 HBW7 p3 p4 p5
              have hph := phase_same HPH2.out
              obtain ⟨dn, hdn⟩ : ∃ dn, DA2.down = dn := ⟨_, rfl⟩
              obtain ⟨u, hu⟩ : ∃ u, usedL DA2.L = u := ⟨_, rfl⟩
              obtain ⟨PA, PB, hA, hB, -, -, -⟩ := HT8.out
              have HUA := up_at hA
              have HUB := up_at hB
              have HSA := used_at hA
              have HSB := used_at hB
              rw [hdn] at HUA
              rw [← hph.2, hdn] at HUB
              rw [hu] at HSA
              rw [← hph.1, hu] at HSB
              have HUA' : Hid _ := HUA
              have HUB' : Hid _ := HUB
              have HSA' : Hid _ := HSA
              have HSB' : Hid _ := HSB
              clear HUA HUB HSA HSB hA hB hph hdn hu
              have HAI : Hid (AI w1 ga gb n keep os (i + 1) DA2 DB2 w8) := ⟨HT8.out.mono (fun _ _ e => e.1) (by omega), HPH2.out, HB8.out, HUS2.out⟩
              have hinc := HINC.out
              by_cases hz : z = 6
              · have hge : (m : Int) ≤ (i : Int) := by have h1 := HZ6.out.1 hz; have h2 := HM.out; omega
                subst hz
                go_wp2_with fail
                refine Calls.mono HUA'.out ?_
                rintro e wq ⟨rfl, hwq⟩
                rw [hwq]
                clear hwq
                go_wp2_with fail
                refine Calls.mono HUB'.out ?_
                rintro e wq ⟨rfl, hwq⟩
                rw [hwq]
                clear hwq
                go_wp2_with fail
                refine Calls.mono HSA'.out ?_
                rintro e wq ⟨rfl, hwq⟩
                rw [hwq]
                clear hwq
                go_wp2_with fail
                refine Calls.mono HSB'.out ?_
                rintro e wq ⟨rfl, hwq⟩
                rw [hwq]
                clear hwq
                go_wp2_with fail
                go_roundw
                case rel => exact ⟨i + 1, DA2, DB2, by first | rfl | rw [hinc], HIL.out, HAI⟩
                case measure => first | exact meas_up HIL.out | (rw [hinc]; exact meas_up HIL.out)
              · have hlt : (i : Int) < (m : Int) := by
                  have h1 : ¬ n ≤ i + 1 := fun e => hz (HZ6.out.2 e)
                  have h2 := HM.out
                  omega
                have hz2 : (z == 6) = false := by simpa using hz
                have hz3 : decide ((m : Int) ≤ (i : Int)) = false := decide_eq_false (by omega)
                go_wp2_with fail
                refine Calls.mono HUA'.out ?_
                rintro e wq ⟨rfl, hwq⟩
                rw [hwq]
                clear hwq
                go_wp2_with fail
                refine Calls.mono HUB'.out ?_
                rintro e wq ⟨rfl, hwq⟩
                rw [hwq]
                clear hwq
                go_wp2_with fail
                refine Calls.mono HSA'.out ?_
                rintro e wq ⟨rfl, hwq⟩
                rw [hwq]
                clear hwq
                go_wp2_with fail
                refine Calls.mono HSB'.out ?_
                rintro e wq ⟨rfl, hwq⟩
                rw [hwq]
                clear hwq
                go_wp2_with fail
                go_roundw
                case rel => exact ⟨i + 1, DA2, DB2, by first | rfl | rw [hinc], HIL.out, HAI⟩
                case measure => first | exact meas_up HIL.out | (rw [hinc]; exact meas_up HIL.out)
      · have hex : ¬ (i : Int) < (n1 : Int) ∨ ((i : Int) < (n1 : Int) ∧ ¬ (i : Int) < 60) := by omega
        clear hall
        rcases hex with h1 | ⟨h1, h2⟩
        · go_wp2_with fail
          go_meet
          case rel => exact ⟨i, DA, DB, _, HI60, HI, rfl⟩
        · go_wp2_with fail
          go_meet
          case rel => exact ⟨i, DA, DB, _, HI60, HI, rfl⟩
  case rest =>
    obtain ⟨i, DA, DB, w8, HI60, HI, rfl⟩ := hcut
    clear HI0
    go_wp2_with fail
    have hsa : ∀ own : Nat → Prop, (∀ k, own k → w1.heap.size ≤ k) → DiskAt own w8 ga DA (1 + 3 * i) → Calls Try.prog 20 #[.pointer (some ⟨ga, 0, none⟩)] w8 fun e w' => e = .returned (.tuple #[]) ∧ DiskAt (grow own w8) w' ga DA.start (1 + 3 * i + 1) ∧ Only own w8 w' := fun own _ hd => by
      refine (start_at hd).mono ?_
      rintro e w' ⟨rfl, h1, h2⟩
      exact ⟨rfl, h1.mono (fun _ _ e => .inl e) (Nat.le_succ _), h2⟩
    refine (two_A HI.out.two (fun k e => Nat.le_trans HI.out.bel.size e) hsa).mono ?_
    rintro e w9 ⟨rfl, hT9, ho9⟩
    have HT9 : Hid (Two (fun k => w1.heap.size ≤ k) w9 ga gb DA.start DB (1 + 3 * i + 1)) := hT9
    have HB9 : Hid (Below w1.heap.size w1 w9) := HI.out.bel.trans (ho9.below (fun _ e => e) HI.out.bel.size)
    clear hsa hT9 ho9
    go_wp2_with fail
    have hsb : ∀ own : Nat → Prop, (∀ k, own k → w1.heap.size ≤ k) → DiskAt own w9 gb DB (1 + 3 * i + 1) → Calls Try.prog 20 #[.pointer (some ⟨gb, 0, none⟩)] w9 fun e w' => e = .returned (.tuple #[]) ∧ DiskAt (grow own w9) w' gb DB.start (1 + 3 * i + 1 + 1) ∧ Only own w9 w' := fun own _ hd => by
      refine (start_at hd).mono ?_
      rintro e w' ⟨rfl, h1, h2⟩
      exact ⟨rfl, h1.mono (fun _ _ e => .inl e) (Nat.le_succ _), h2⟩
    refine (two_B HT9.out (fun k e => Nat.le_trans HB9.out.size e) hsb).mono ?_
    rintro e w10 ⟨rfl, hT10, ho10⟩
    obtain ⟨DA3, hA3⟩ : ∃ D, DA.start = D := ⟨_, rfl⟩
    obtain ⟨DB3, hB3⟩ : ∃ D, DB.start = D := ⟨_, rfl⟩
    have HLL : Hid (DA3.L = DB3.L ∧ DA3.down = DB3.down) := by rw [← hA3, ← hB3]; exact ⟨(phase_same HI.out.ph).1, rfl⟩
    have HUL : Hid (usedL DA3.L ≤ 140737488355328 ∧ usedL DB3.L ≤ 140737488355328) := by
      have h1 : usedL DA3.L ≤ 1048576 := by rw [← hA3]; exact Nat.le_trans HI.out.used (Nat.le_trans (sumO_le os i) HSZ.out)
      have h2 : usedL DB3.L ≤ 1048576 := by rw [← HLL.out.1]; exact h1
      exact ⟨by omega, by omega⟩
    rw [hA3, hB3] at hT10
    have HT10 : Hid (Two (fun k => w1.heap.size ≤ k) w10 ga gb DA3 DB3 (1 + 3 * i + 1 + 1)) := hT10
    have HB10 : Hid (Below w1.heap.size w1 w10) := HB9.out.trans (ho10.below (fun _ e => e) HB9.out.size)
    have HNN : Hid (1 + 3 * i + 1 + 1 ≤ 1000000) := by show _ ≤ _; have := HI60.out; omega
    have HLI : Hid (DA3.list = DB3.list) := by show _ = _; unfold Dk.list; rw [HLL.out.1, HLL.out.2]
    have HRD : Hid (∀ s, DA3.read s = DB3.read s) := fun s => by unfold Dk.read; rw [HLL.out.1, HLL.out.2]
    have HLN : Hid (DA3.list.length ≤ 1000000) := by
      obtain ⟨PA, PB, h5, -⟩ := HT10.out
      exact Nat.le_trans h5.list_len HNN.out
    have HSM : Hid (∀ s ∈ DA3.list.map bS, s.size ≤ maxLen) := list_small HT10.out.wfs.1
    clear hsb hT10 ho10 hA3 hB3 HT9 HB9 HI
    go_wp2_with fail
    obtain ⟨PA, PB, hPA, hPB, -⟩ := HT10.out
    refine (list_at hPA HNN.out).mono ?_
    rintro e w11 ⟨v1, rfl, hrow1, hb11⟩
    obtain ⟨o1, lc1, rfl, hs1⟩ := strs_of hrow1
    have HPA : Hid (DiskAt PA w11 ga DA3 (1 + 3 * i + 1 + 1)) := hPA.grown hb11
    have HPB : Hid (DiskAt PB w11 gb DB3 (1 + 3 * i + 1 + 1)) := hPB.grown hb11
    have HS1 : Hid (StrsAt w11 o1 (DA3.list.map bS)) := hs1
    have HB11 : Hid (Below w1.heap.size w1 w11) := HB10.out.trans (hb11.mono HB10.out.size)
    clear hPA hPB hrow1 hs1 hb11 HT10 HB10
    obtain ⟨ns, HNS⟩ : ∃ l, Hid (DA3.list = l) := ⟨_, rfl⟩
    obtain ⟨nl, HNL⟩ : ∃ n, Hid (ns.length = n) := ⟨_, rfl⟩
    rw [HNS.out] at HS1 ⊢
    rw [HNL.out]
    have HNB2 : Hid (nl ≤ 1000000) := by rw [← HNL.out, ← HNS.out]; exact HLN.out
    go_wp2_with fail
    have hl2 := list_at HPB.out HNN.out
    rw [← HLI.out, HNS.out] at hl2
    refine hl2.mono ?_
    rintro e w12 ⟨v2, rfl, hrow2, hb12⟩
    obtain ⟨o2, lc2, rfl, hs2⟩ := strs_of hrow2
    have HPA2 : Hid (DiskAt PA w12 ga DA3 (1 + 3 * i + 1 + 1)) := HPA.out.grown hb12
    have HPB2 : Hid (DiskAt PB w12 gb DB3 (1 + 3 * i + 1 + 1)) := HPB.out.grown hb12
    have HS12 : Hid (StrsAt w12 o1 (ns.map bS)) := HS1.out.below hb12
    have HS22 : Hid (StrsAt w12 o2 (ns.map bS)) := hs2
    have HB12 : Hid (Below w1.heap.size w1 w12) := HB11.out.trans (hb12.mono HB11.out.size)
    clear hl2 hrow2 hs2 hb12 HPA HPB HS1 HB11
    rw [HNL.out]
    go_wp2_with fail
    refine (texts_same o1 o2 nl lc1 lc2 (ns.map bS) w12 (by rw [List.length_map]; exact HNL.out) HS12.out HS22.out (by have := HNB2.out; omega)).mono ?_
    rintro e w13 ⟨rfl, kq, rfl⟩
    have HJ0 : Hid (DiskAt PA (w12.drewN kq) ga DA3 (1 + 3 * i + 1 + 1) ∧ DiskAt PB (w12.drewN kq) gb DB3 (1 + 3 * i + 1 + 1) ∧ StrsAt (w12.drewN kq) o1 (ns.map bS) ∧ Below w1.heap.size w1 (w12.drewN kq)) := ⟨HPA2.out.keep (fun _ _ _ => by rw [heap_drewN]), HPB2.out.keep (fun _ _ _ => by rw [heap_drewN]), HS12.out.below (bel_drewN (Below.refl _ _) kq), bel_drewN HB12.out kq⟩
    clear HPA2 HPB2 HS12 HS22 HB12
    go_wp2_with fail
    go_loopw [18, 19, 20, 21, 22, 23] (fun v18 v19 _ _ _ _ wr => ∃ j : Nat, v19 = .int .i64 j ∧ v18 = .bool true ∧ Hid (j ≤ nl) ∧ Hid (DiskAt PA wr ga DA3 (1 + 3 * i + 1 + 1) ∧ DiskAt PB wr gb DB3 (1 + 3 * i + 1 + 1) ∧ StrsAt wr o1 (ns.map bS) ∧ Below w1.heap.size w1 wr)) (fun _ v19 _ _ _ _ _ => nl - (intOf v19).toNat)
    case atStart => exact ⟨0, rfl, rfl, Nat.zero_le _, HJ0⟩
    case round =>
      obtain ⟨j, rfl, rfl, HJ, HJI⟩ := hrel
      clear HJ0
      by_cases hj : j < nl
      · obtain ⟨s, hs⟩ : ∃ s, (ns.map bS)[j]? = some s := ⟨(ns.map bS)[j]'(by rw [List.length_map, HNL.out]; exact hj), List.getElem?_eq_getElem _⟩
        obtain ⟨gl, rfl, hcl⟩ := HJI.out.2.2.1 j s hs
        have HSS : Hid (s.size ≤ maxLen) := HSM.out s (by rw [HNS.out]; exact List.mem_of_getElem? hs)
        have hj' : (j : Int) < (nl : Int) := Int.ofNat_lt.2 hj
        have hj0 : (0 : Int) ≤ (j : Int) := Int.natCast_nonneg _
        have HJL : Hid (j < nl) := hj
        have HINC : Hid (wrap64 ((j : Int) + 1) = ((j + 1 : Nat) : Int)) := winc (by have := HNB2.out; omega)
        clear hs hj
        go_wp2_with fail
        refine (read_at HJI.out.1 s HSS.out HUL.out.1).mono ?_
        rintro e w14 ⟨v3, rfl, hown3, hb14⟩
        obtain ⟨rb, hrb⟩ : ∃ r, (DA3.read s).1 = r := ⟨_, rfl⟩
        obtain ⟨re, hre⟩ : ∃ r, (DA3.read s).2 = r := ⟨_, rfl⟩
        have HRE : Hid ((DA3.read s).1 = rb ∧ (DA3.read s).2 = re) := ⟨hrb, hre⟩
        rw [hrb] at hown3
        rw [hre]
        obtain ⟨ro, rc, rfl, hby3, -⟩ := own_bytes hown3
        have HBY3 : Hid (Bytes w14 ro rb.length rb) := hby3
        have HJ14 : Hid (DiskAt PA w14 ga DA3 (1 + 3 * i + 1 + 1) ∧ DiskAt PB w14 gb DB3 (1 + 3 * i + 1 + 1) ∧ StrsAt w14 (some ⟨gl, 0, none⟩) (ns.map bS) ∧ Below w1.heap.size w1 w14) := ⟨HJI.out.1.grown hb14, HJI.out.2.1.grown hb14, HJI.out.2.2.1.below hb14, HJI.out.2.2.2.trans (hb14.mono HJI.out.2.2.2.size)⟩
        have hcl14 : w14.cell? ⟨gl, j, none⟩ = some (.string s) := (hb14.cell (p := ⟨gl, j, none⟩) (World.block_lt_of_cell? wr _ hcl)).trans hcl
        clear hown3 hby3 hb14 hcl hrb hre HJI
        go_wp2_with fail
        have hr4 := read_at HJ14.out.2.1 s HSS.out HUL.out.2
        rw [← HRD.out s, HRE.out.1, HRE.out.2] at hr4
        refine hr4.mono ?_
        rintro e w15 ⟨v4, rfl, hown4, hb15⟩
        obtain ⟨so, sc, rfl, hby4, -⟩ := own_bytes hown4
        have HJ15 : Hid (DiskAt PA w15 ga DA3 (1 + 3 * i + 1 + 1) ∧ DiskAt PB w15 gb DB3 (1 + 3 * i + 1 + 1) ∧ StrsAt w15 (some ⟨gl, 0, none⟩) (ns.map bS) ∧ Below w1.heap.size w1 w15) := ⟨HJ14.out.1.grown hb15, HJ14.out.2.1.grown hb15, HJ14.out.2.2.1.below hb15, HJ14.out.2.2.2.trans (hb15.mono HJ14.out.2.2.2.size)⟩
        obtain ⟨sj, HSJ⟩ : ∃ s, Hid (bS rb = s) := ⟨_, rfl⟩
        have t1 := str_bS rc (bytes_kept HBY3.out hb15 (Nat.le_refl _))
        have t2 := str_bS sc hby4
        rw [HSJ.out] at t1 t2
        clear hr4 hown4 hby4 hb15 hcl14 HJ14 HBY3 HRE
        have hinc := HINC.out
        go_wp2_with fail
        go_roundw
        case rel => exact ⟨j + 1, by first | rfl | rw [hinc], by first | rfl | simp, HJL.out, HJ15⟩
        case measure => first | exact meas_up HJL.out | (rw [hinc]; exact meas_up HJL.out)
      · have hj' : ¬ (j : Int) < (nl : Int) := fun e => hj (Int.ofNat_lt.1 e)
        clear hj
        go_wp2_with fail
        go_ret
        exact ⟨rfl, HB1.out.trans (HJI.out.2.2.2.mono HB1.out.size)⟩
end Go.Proofs.Ytomeghngjiaofaa
