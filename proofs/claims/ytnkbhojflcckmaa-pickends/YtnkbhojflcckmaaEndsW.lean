/-
  PickEnds: its walk.
-/
import Derived.Test.YtnkbhojflcckmaaPkAC
namespace Go.Proofs.Ytnkbhojflcckmaa
open Go.RowKit
set_option linter.unusedSectionVars false
theorem perm_snoc {l a b : List Tb} {x : Tb} (h : l.Perm (a ++ b)) : (l ++ [x]).Perm (a ++ [x] ++ b) := by
  refine (h.append_right [x]).trans ?_
  rw [List.append_assoc, List.append_assoc]
  exact List.Perm.append_left a List.perm_append_comm
theorem ends_w {a : Int} {x : Tb} (h : 0 ≤ a ∧ a ≤ 600 * 100000) (h2 : OkT x ∧ 1 ≤ x.ct) : wrap64 (a + x.ct) = a + x.ct := by
  have h3 := h2.1
  unfold OkT at h3
  unfold wrap64; omega
set_option maxRecDepth 100000 in
set_option maxHeartbeats 4000000 in
theorem ends_walk (ao : Option Addr) (n c : Nat) (ts : List Tb) (w : World) (hE : TabsV w ao n ts) (hn : n ≤ 9223372036854775807) :
    Calls Try.prog 6 #[.slice ao n c] w fun e w' => e = .returned (.bool true) ∧ Below w.heap.size w w' := by
  have HE : Hid (∀ V, Below w.heap.size w V → TabsV V ao n ts) := fun V hV => hE.keep hV
  have C0 : Hid _ := shown_any w
  obtain ⟨R, HR⟩ : ∃ R, Hid (rightL ts = R) := ⟨_, rfl⟩
  have HSR : Hid (StT R) := by show StT R; rw [← HR.out]; exact StT.start ts
  clear hE
  go_enter Try.func6, Try.ntmps6
  go_wp2_with fail
  refine Calls.mono C0.out ?_
  rintro e w1 ⟨rfl, hb1⟩
  have HB1 : Hid (Below w.heap.size w w1) := hb1
  have C1 : Hid _ := right_any ao n c ts w1 (HE.out w1 hb1) hn
  rw [HR.out] at C1
  clear hb1 C0
  go_wp2_with fail
  refine Calls.mono C1.out ?_
  rintro e w2 ⟨v, rfl, hown2, hb2⟩
  obtain ⟨rn, HRN⟩ : ∃ k, Hid (R.length = k) := ⟨_, rfl⟩
  rw [HRN.out] at hown2
  have HOR : Hid (w2.ownsRow w.heap.size 32 36 v rn (flatT R)) := own_deeper hown2 HB1.out.size
  obtain ⟨ra, rc, rfl, hrv, -⟩ := own_tabsV hown2
  have HB2 : Hid (Below w.heap.size w w2) := HB1.out.trans (hb2.mono HB1.out.size)
  have S1 : Hid _ := score_any ra rn rc R w2 hrv (by have := HSR.out.len; have := HRN.out; omega) enters26
  have HSC : Hid (scN R rn = scE R) := by
    have h1 := sc_all R (fun x hx => (HSR.out.ok x hx).1) (by have := HSR.out.len; omega)
    rw [HRN.out] at h1; exact h1
  obtain ⟨M, HM⟩ : ∃ z, Hid (scE R = z) := ⟨_, rfl⟩
  have HMB : Hid (0 ≤ M ∧ M ≤ 180000000) := by
    show 0 ≤ M ∧ M ≤ 180000000
    have h1 := scE_bound R (fun x hx => (HSR.out.ok x hx).1)
    have h2 := HSR.out.len
    rw [HM.out] at h1
    omega
  rw [HSC.out, HM.out] at S1
  clear hown2 hb2 hrv C1
  go_wp2_with fail
  refine Calls.mono S1.out ?_
  rintro e w3 ⟨rfl, hb3⟩
  have HB3 : Hid (Below w.heap.size w w3) := HB2.out.trans (hb3.mono HB2.out.size)
  have HO3 : Hid (w3.ownsRow w.heap.size 32 36 (.slice ra rn rc) rn (flatT R)) := own_below HOR.out hb3 (Nat.le_refl _)
  clear hb3 S1
  go_wp2
  go_loopw [0, 5, 6, 7, 8, 9, 10, 11, 12, 13, 14, 15, 16] (fun l st _ _ _ _ _ _ _ _ _ _ _ wr => ∃ (s : Nat) (T : List Tb), st = .int .i64 s ∧ Hid (StT T ∧ (s : Int) + scE T ≤ M) ∧ wr.ownsRow w.heap.size 32 36 l T.length (flatT T) ∧ Below w.heap.size w wr) (fun _ st _ _ _ _ _ _ _ _ _ _ _ _ => M.toNat + 1 - (intOf st).toNat)
  case atStart => exact ⟨0, R, rfl, ⟨HSR.out, by rw [HM.out]; simp⟩, by rw [HRN.out]; exact HO3.out, HB3.out⟩
  case round =>
    obtain ⟨s, T, rfl, HST, hown, hbel⟩ := hrel
    obtain ⟨n2, HN2⟩ : ∃ k, Hid (T.length = k) := ⟨_, rfl⟩
    have HFL : Hid (n2 ≤ 600) := by show n2 ≤ 600; rw [← HN2.out]; exact HST.out.1.len
    rw [HN2.out] at hown
    obtain ⟨oo, oc, rfl, hov, -⟩ := own_tabsV hown
    have HOV : Hid (TabsV wr oo n2 T) := hov
    have HBW : Hid (Below w.heap.size w wr) := hbel
    have hsM : (s : Int) ≤ M := by have h1 := HST.out.2; have h2 := (scE_bound T (fun x hx => (HST.out.1.ok x hx).1)).1; omega
    have hsb : (s : Int) < 200000000 := by have := HMB.out; omega
    have C2 : Hid _ := pick_any oo n2 oc T wr hov (by have := HFL.out; omega)
    obtain ⟨wo, hwo⟩ : ∃ W, W = wr := ⟨_, rfl⟩
    subst hwo
    clear hov hown hbel
    obtain ⟨q, HQ⟩ : ∃ q, Hid ((pkL T).length = q) := ⟨_, rfl⟩
    go_wp2_with fail
    refine Calls.mono C2.out ?_
    rintro e w3 ⟨r3, k3, rfl, hi3, hb3⟩
    rw [HQ.out] at hi3 ⊢
    have HI3 : Hid (IntsV w3 r3 q (pkL T)) := hi3
    have HB3 : Hid (Below w.heap.size w w3) := HBW.out.trans (hb3.mono HBW.out.size)
    have HOV3 : Hid (TabsV w3 oo n2 T) := HOV.out.keep hb3
    clear hi3 hb3 C2
    cases hp : pickF T with
    | none =>
      have HOF : Hid (∀ V (m : Nat), Below w3.heap.size w3 V → Calls Try.prog 17 #[.slice oo n2 oc, .int .i64 (m : Int)] V fun e w' => e = .returned (.int .i64 ((cntN T m n2 : Nat) : Int)) ∧ w' = V) := fun V m hV => of_any oo n2 oc T V (HOV3.out.keep hV) (by have := HFL.out; omega) m
      obtain ⟨p1, p2, p3⟩ := pk_none hp
      have HCP : Hid (∀ m : Nat, m < 3 → (cntN T m n2 : Int) ≤ capI m) := fun m hm => by have := none_caps hp m hm; rw [HN2.out] at this; exact this
      rw [p2, p3]
      clear hp p1 p2 p3
      go_wp2
      go_loopw [9] (fun x wr => ∃ m : Nat, x = .int .i64 m ∧ m ≤ 3 ∧ wr = w3) (fun x _ => 3 - (intOf x).toNat)
      case atStart => exact ⟨0, rfl, by omega, rfl⟩
      case round =>
        obtain ⟨m, rfl, hm3, rfl⟩ := hrel
        by_cases hm : m < 3
        · have hmz : (m : Int) < 3 := by omega
          have hcp := HCP.out m hm
          have O1 : Hid _ := HOF.out wr m (Below.refl _ _)
          have K1 : Hid _ := cap_any m wr
          obtain ⟨cv, HCV⟩ : ∃ z, Hid (cntN T m n2 = z) := ⟨_, rfl⟩
          obtain ⟨cp, HCPV⟩ : ∃ z, Hid (capI (m : Int) = z) := ⟨_, rfl⟩
          rw [HCV.out] at O1 hcp
          rw [HCPV.out] at K1 hcp
          have hgt : decide (cp < (cv : Int)) = false := decide_eq_false (by omega)
          go_wp2_with fail
          refine Calls.mono O1.out ?_
          rintro e wa ⟨rfl, hwa⟩
          subst hwa
          go_wp2_with fail
          refine Calls.mono K1.out ?_
          rintro e wb ⟨rfl, hwb⟩
          subst hwb
          clear O1 K1
          go_wp2
          go_roundw
          case rel => exact ⟨m + 1, by go_num, by omega, trivial⟩
          case measure => simp [intOf]; omega
        · have hmz : ¬ (m : Int) < 3 := by omega
          obtain rfl : m = 3 := by omega
          go_wp2
          go_ret
          exact ⟨rfl, HB3.out⟩
    | some f =>
      have HPF : Hid (pickF T = some f) := hp
      have hf3 : f < 3 := pickF_lt hp
      obtain ⟨p1, p2, p3⟩ := pk_of hp
      obtain ⟨L, HL⟩ : ∃ L, Hid (inL T f = L) := ⟨_, rfl⟩
      have HLR : Hid (L.Pairwise (· < ·)) := by show List.Pairwise _ _; rw [← HL.out]; exact inL_rises T f
      have HLB : Hid (∀ j ∈ L, j < n2) := fun j hj => by rw [← HN2.out]; rw [← HL.out] at hj; exact (mem_inN.1 hj).1
      rw [p1, HL.out] at HI3 HQ
      rw [p2, p3]
      have hf1 : ((f + 1 : Nat) : Int) = (f : Int) + 1 := by omega
      rw [hf1]
      have HQL : Hid (q ≤ n2) := by show q ≤ n2; rw [← HQ.out, ← HL.out, ← HN2.out]; exact inN_le T f T.length
      have HQ1 : Hid (0 < q) := by show 0 < q; rw [← HQ.out, ← HL.out]; exact inL_pos hp
      have hq0 : ((q : Int) == 0) = false := by have := HQ1.out; simp; omega
      have HL0 : Hid (0 < L.length) := by show 0 < L.length; rw [HQ.out]; exact HQ1.out
      obtain ⟨k0, HK0⟩ : ∃ k, Hid (L.getD 0 0 = k) := ⟨_, rfl⟩
      have hk0n : k0 < n2 := by rw [← HK0.out]; exact HLB.out _ (getD_memN HL0.out)
      obtain ⟨b, off, hro, hca⟩ := HI3.out.2 HQ1.out
      obtain ⟨b2, off2, hoo, hEn⟩ := HOV3.out.2 (by omega)
      obtain ⟨x0, HX0⟩ : ∃ x, Hid (T.getD k0 zT = x) := ⟨_, rfl⟩
      have HRX : Hid (w3.rangeAt b2 (off2 + k0 * 36) (encT x0)) := tabs_range hEn k0 (by have := HN2.out; omega) HX0.out
      have e1 := hca 0 HQ1.out
      rw [HK0.out, Nat.add_zero] at e1
      have hk1 : (k0 : Int) < (n2 : Int) := by omega
      have hq1 : (0 : Int) < (q : Int) := by have := HQ1.out; omega
      have hk2 : decide ((n2 : Int) ≤ (k0 : Int)) = false := decide_eq_false (by omega)
      have hk3 : decide (n2 ≤ k0) = false := decide_eq_false (by omega)
      have h0x : decide ((k0 : Int) < 0) = false := decide_eq_false (by omega)
      subst hro hoo
      have HE1 : Hid _ := e1
      clear hp p1 p2 p3 hf1 hca hEn hk0n
      go_upto_region 17 with fail
      clear hk2 hk3 h0x e1
      obtain ⟨-, -, c3, c4⟩ := range_four HRX.out
      have HCS : Hid (∀ W, Below w3.heap.size w3 W → W.cell? ⟨b, off, none⟩ = some (.int .i64 (k0 : Int)) ∧ W.cell? ⟨b2, off2 + k0 * 36 + 34, none⟩ = some (.string x0.first) ∧ W.cell? ⟨b2, off2 + k0 * 36 + 35, none⟩ = some (.string x0.last)) := fun W hW =>
        ⟨by rw [← HE1.out]; exact World.cell?_of_block (hW.block _ (World.block_lt_of_cell? w3 _ HE1.out)), by rw [← c3]; exact World.cell?_of_block (hW.block _ (World.block_lt_of_cell? w3 _ c3)), by rw [← c4]; exact World.cell?_of_block (hW.block _ (World.block_lt_of_cell? w3 _ c4))⟩
      obtain ⟨m0, HM0⟩ : ∃ m, Hid (mkT ((f : Int) + 1) 0 x0.first x0.last = m) := ⟨_, rfl⟩
      have HB0 : Hid (Try.prog.built 32 [(0, .int .i64 ((f : Int) + 1)), (3, .string x0.first), (4, .string x0.last)] = some (encT m0).toArray) := by show _ = _; rw [← HM0.out]; exact built034 _ _ _
      have HMZ : Hid (madeT T f L 0 = m0) := by show _ = _; rw [madeT_zero T f HL0.out, HK0.out, HX0.out]; exact HM0.out
      clear c3 c4
      have hqn : 0 < q := HQ1.out
      refine wp_region_held_drew (S := fun W => W.cell? ⟨b, off, none⟩ = some (.int .i64 (k0 : Int)) ∧ W.cell? ⟨b2, off2 + k0 * 36 + 34, none⟩ = some (.string x0.first) ∧ W.cell? ⟨b2, off2 + k0 * 36 + 35, none⟩ = some (.string x0.last)) (by kernel_rfl) (HCS.out _ (Below.drew (Below.refl _ _))) (fun hS => ?_)
      refine wpAnyH_take (i := 0) (v := ?_) rfl (by kernel_rfl) (by kernel_rfl) (by kernel_rfl) (fun _ _ _ h => h) (Or.inl ⟨by rfl, ?_⟩) (by assumption) ?_
      rotate_left
      · (intro w hSw; (try dsimp only at hSw); go_simp; try with_reducible rfl)
      simp only [Act.put, List.getElem_toArray, List.getElem_cons_zero, List.setIfInBounds_toArray, List.set_cons_zero, List.set_cons_succ]
      refine wpAnyH_take (i := 1) (v := ?_) rfl (by kernel_rfl) (by kernel_rfl) (by kernel_rfl) (fun _ _ _ h => h) (Or.inl ⟨by rfl, ?_⟩) (by assumption) ?_
      rotate_left
      · (intro w hSw; (try dsimp only at hSw); go_simp; try with_reducible rfl)
      simp only [Act.put, List.getElem_toArray, List.getElem_cons_zero, List.getElem_cons_succ, List.setIfInBounds_toArray, List.set_cons_zero, List.set_cons_succ]
      refine wpAnyH_take (i := 2) (v := ?_) rfl (by kernel_rfl) (by kernel_rfl) (by kernel_rfl) (fun _ _ _ h => h) (Or.inl ⟨by rfl, ?_⟩) (by assumption) ?_
      rotate_left
      · (intro w hSw; (try dsimp only at hSw); go_simp; try with_reducible rfl)
      simp only [Act.put, List.getElem_toArray, List.getElem_cons_zero, List.getElem_cons_succ, List.setIfInBounds_toArray, List.set_cons_zero, List.set_cons_succ]
      refine wpAnyH_take (i := 3) (v := ?_) rfl (by kernel_rfl) (by kernel_rfl) (by kernel_rfl) (fun _ _ _ h => h) (Or.inl ⟨by rfl, ?_⟩) (by assumption) ?_
      rotate_left
      · (intro w hSw; (try dsimp only at hSw); go_simp; try with_reducible rfl)
      simp only [Act.put, List.getElem_toArray, List.getElem_cons_zero, List.getElem_cons_succ, List.setIfInBounds_toArray, List.set_cons_zero, List.set_cons_succ]
      refine wpAnyH_take (i := 4) (v := ?_) rfl (by kernel_rfl) (by kernel_rfl) (by kernel_rfl) (fun _ _ _ h => h) (Or.inl ⟨by rfl, ?_⟩) (by assumption) ?_
      rotate_left
      · (intro w hSw; (try dsimp only at hSw); go_simp; try with_reducible rfl)
      simp only [Act.put, List.getElem_toArray, List.getElem_cons_zero, List.getElem_cons_succ, List.setIfInBounds_toArray, List.set_cons_zero, List.set_cons_succ]
      refine wpAnyH_take (i := 5) (v := ?_) rfl (by kernel_rfl) (by kernel_rfl) (by kernel_rfl) (fun _ _ _ h => h) (Or.inl ⟨by rfl, ?_⟩) (by assumption) ?_
      rotate_left
      · (intro w hSw; (try dsimp only at hSw); go_simp; try with_reducible rfl)
      simp only [Act.put, List.getElem_toArray, List.getElem_cons_zero, List.getElem_cons_succ, List.setIfInBounds_toArray, List.set_cons_zero, List.set_cons_succ]
      refine wpAnyH_take (i := 6) (v := ?_) rfl (by kernel_rfl) (by kernel_rfl) (by kernel_rfl) (fun _ _ _ h => h) (Or.inl ⟨by rfl, ?_⟩) (by assumption) ?_
      rotate_left
      · (intro w hSw; (try dsimp only at hSw); go_simp; try with_reducible rfl)
      simp only [Act.put, List.getElem_toArray, List.getElem_cons_zero, List.getElem_cons_succ, List.setIfInBounds_toArray, List.set_cons_zero, List.set_cons_succ]
      refine wpAnyH_take (i := 7) (v := ?_) rfl (by kernel_rfl) (by kernel_rfl) (by kernel_rfl) (fun _ _ _ h => h) (Or.inl ⟨by rfl, ?_⟩) (by assumption) ?_
      rotate_left
      · (intro w hSw; (try dsimp only at hSw); go_simp; try with_reducible rfl)
      simp only [Act.put, List.getElem_toArray, List.getElem_cons_zero, List.getElem_cons_succ, List.setIfInBounds_toArray, List.set_cons_zero, List.set_cons_succ]
      refine wpAnyH_take (i := 8) (v := ?_) rfl (by kernel_rfl) (by kernel_rfl) (by kernel_rfl) (fun _ _ _ h => h) (Or.inl ⟨by rfl, ?_⟩) (by assumption) ?_
      rotate_left
      · (intro w hSw; (try dsimp only at hSw); go_simp; try with_reducible rfl)
      simp only [Act.put, List.getElem_toArray, List.getElem_cons_zero, List.getElem_cons_succ, List.setIfInBounds_toArray, List.set_cons_zero, List.set_cons_succ]
      refine wpAnyH_take (i := 9) (v := ?_) rfl (by kernel_rfl) (by kernel_rfl) (by kernel_rfl) (fun _ _ _ h => h) (Or.inl ⟨by rfl, ?_⟩) (by assumption) ?_
      rotate_left
      · (intro w hSw; (try dsimp only at hSw); go_simp; try with_reducible rfl)
      simp only [Act.put, List.getElem_toArray, List.getElem_cons_zero, List.getElem_cons_succ, List.setIfInBounds_toArray, List.set_cons_zero, List.set_cons_succ]
      refine wpAnyH_take (i := 10) (v := ?_) rfl (by kernel_rfl) (by kernel_rfl) (by kernel_rfl) (fun _ _ _ h => h) (Or.inl ⟨by rfl, ?_⟩) (by assumption) ?_
      rotate_left
      · (intro w hSw; (try dsimp only at hSw); go_simp; try with_reducible rfl)
      simp only [Act.put, List.getElem_toArray, List.getElem_cons_zero, List.getElem_cons_succ, List.setIfInBounds_toArray, List.set_cons_zero, List.set_cons_succ]
      refine wpAnyH_take (i := 11) (v := ?_) rfl (by kernel_rfl) (by kernel_rfl) (by kernel_rfl) (fun _ _ _ h => h) (Or.inl ⟨by rfl, ?_⟩) (by assumption) ?_
      rotate_left
      · (intro w hSw; (try dsimp only at hSw); go_simp; try with_reducible rfl)
      simp only [Act.put, List.getElem_toArray, List.getElem_cons_zero, List.getElem_cons_succ, List.setIfInBounds_toArray, List.set_cons_zero, List.set_cons_succ]
      refine wpAnyH_take (i := 12) (v := ?_) rfl (by kernel_rfl) (by kernel_rfl) (by kernel_rfl) (fun _ _ _ h => h) (Or.inl ⟨by rfl, ?_⟩) (by assumption) ?_
      rotate_left
      · (intro w hSw; (try dsimp only at hSw); go_simp; try with_reducible rfl)
      simp only [Act.put, List.getElem_toArray, List.getElem_cons_zero, List.getElem_cons_succ, List.setIfInBounds_toArray, List.set_cons_zero, List.set_cons_succ]
      refine wpAnyH_take (i := 13) (v := ?_) rfl (by kernel_rfl) (by kernel_rfl) (by kernel_rfl) (fun _ _ _ h => h) (Or.inl ⟨by rfl, ?_⟩) (by assumption) ?_
      rotate_left
      · (intro w hSw; (try dsimp only at hSw); go_simp; try with_reducible rfl)
      simp only [Act.put, List.getElem_toArray, List.getElem_cons_zero, List.getElem_cons_succ, List.setIfInBounds_toArray, List.set_cons_zero, List.set_cons_succ]
      refine wpAnyH_take (i := 14) (v := ?_) rfl (by kernel_rfl) (by kernel_rfl) (by kernel_rfl) (fun _ _ _ h => h) (Or.inl ⟨by rfl, ?_⟩) (by assumption) ?_
      rotate_left
      · (intro w hSw; (try dsimp only at hSw); go_simp; try with_reducible rfl)
      simp only [Act.put, List.getElem_toArray, List.getElem_cons_zero, List.getElem_cons_succ, List.setIfInBounds_toArray, List.set_cons_zero, List.set_cons_succ]
      refine wpAnyH_take (i := 15) (v := .agg (encT m0).toArray) rfl (by kernel_rfl) (by kernel_rfl) (by kernel_rfl) (fun _ _ _ h => h) (yieldsIf_build (by rfl) 32 _ rfl (encT m0).toArray _ HB0.out (by rfl)) (by assumption) ?_
      simp only [Act.put, List.getElem_toArray, List.getElem_cons_zero, List.getElem_cons_succ, List.setIfInBounds_toArray, List.set_cons_zero, List.set_cons_succ]
      have HC6 : Hid (Below w3.heap.size w3 (w3.drew.alloc (.cells (encT zT).toArray 32))) := (Below.drew (Below.refl _ _)).trans ((bel_alloc w3.drew _).mono (Nat.le_refl _))
      refine wpAnyH_ready (rs := [16]) (by kernel_rfl) (by simp) ?_
      refine AllReadyH.cons rfl (fun K hK => ?_) AllReadyH.nil
      go_simp
      refine hK.out _ _ (HCS.out _ HC6.out) (fun hHeld2 => ?_)
      clear hK K
      refine wpAnyH_ready (rs := [17]) (by kernel_rfl) (by simp) ?_
      refine AllReadyH.cons rfl (fun K hK => ?_) AllReadyH.nil
      rw [if_pos (by rfl)]
      refine wp_store_row 32 (.tmp 10) (.tmp 78) rfl w3.heap.size (encT m0).toArray rfl rfl 32 (encT zT).toArray (show (w3.alloc (.cells (encT zT).toArray 32)).drew.heap[w3.heap.size]? = some (.cells (encT zT).toArray 32 (0, 0)) from heap_alloc_new w3 _) (sizeTA m0) (by rw [List.size_toArray, List.size_toArray, encT_len, encT_len]) (allT m0) ?_
      have HX7 : Hid (Box ((w3.alloc (.cells (encT zT).toArray 32)).drew.setRow w3.heap.size (encT m0).toArray) w3.heap.size m0 ∧ Below w3.heap.size w3 ((w3.alloc (.cells (encT zT).toArray 32)).drew.setRow w3.heap.size (encT m0).toArray) ∧ ((w3.alloc (.cells (encT zT).toArray 32)).drew.setRow w3.heap.size (encT m0).toArray).heap.size = w3.heap.size + 1) :=
        ⟨box_row m0 (show (w3.alloc (.cells (encT zT).toArray 32)).drew.heap[w3.heap.size]? = some (.cells (encT zT).toArray 32 (0, 0)) from heap_alloc_new w3 _), below_setRow (bel_alloc w3 _).drew (Nat.le_refl _) _, by simp⟩
      refine hK.out _ _ (HCS.out _ HX7.out.2.1) (fun hHeld3 => ?_)
      clear hK K hHeld2 hHeld3 hS
      refine wpAnyH_done (by kernel_rfl) ?_ _
      change Exit.then _ _ Exit.normal _ ((w3.alloc (.cells (encT zT).toArray 32)).drew.setRow w3.heap.size (encT m0).toArray)
      have H4 : Hid _ := HX7.out
      clear HX7 HC6
      generalize (w3.alloc (.cells (encT zT).toArray 32)).drew.setRow w3.heap.size (encT m0).toArray = w4 at *
      go_upto_region 18 with fail
      go_wp2_with (refine wpList_make_flags _ rfl (.tmp 80) (.tmp 80) rfl n2 (by have := HFL.out; omega) rfl rfl ?_)
      intro w5 hfl5 hb5
      have HEI : Hid (EI w3 w5 w3.heap.size w4.heap.size (madeT T f L 0) (pkd L n2 0)) := ⟨by rw [HMZ.out]; exact H4.out.1.keep hb5, by rw [pkd_zero]; exact hfl5, H4.out.2.1.trans (hb5.mono (by have := H4.out.2.2; omega)), by have := H4.out.2.2; omega, Nat.le_refl _, by have := H4.out.2.2; omega⟩
      obtain ⟨gf, HGF⟩ : ∃ g, Hid (w4.heap.size = g) := ⟨_, rfl⟩
      obtain ⟨gm, HGM⟩ : ∃ g, Hid (w3.heap.size = g) := ⟨_, rfl⟩
      rw [HGF.out, HGM.out] at HEI
      rw [HGF.out, HGM.out]
      clear hfl5 hb5
      go_wp2
      go_loopw [12, 13] (fun kx _ wr => ∃ i : Nat, kx = .int .i64 i ∧ i ≤ q ∧ EI w3 wr gm gf (madeT T f L i) (pkd L n2 i)) (fun kx _ _ => q - (intOf kx).toNat)
      case atStart => exact ⟨0, rfl, by omega, HEI.out⟩
      case round =>
        obtain ⟨i, rfl, hiq, hei⟩ := hrel
        have HI : Hid (EI w3 wr gm gf (madeT T f L i) (pkd L n2 i)) := hei
        by_cases hi : i < q
        · have hiz : (i : Int) < (q : Int) := by omega
          have hi6 : (i : Int) < 601 := by have := HQL.out; have := HFL.out; omega
          have hiL : i < L.length := by have := HQ.out; omega
          obtain ⟨k, HK⟩ : ∃ k, Hid (L.getD i 0 = k) := ⟨_, rfl⟩
          have hkn2 : k < n2 := by rw [← HK.out]; exact HLB.out _ (getD_memN hiL)
          have HKN : Hid _ := hkn2
          obtain ⟨x, HX⟩ : ∃ x, Hid (T.getD k zT = x) := ⟨_, rfl⟩
          have HMS : Hid _ := madeT_succ T f hiL x (by rw [HK.out]; exact HX.out)
          have HPS : Hid ((pkd L n2 i).set k true = pkd L n2 (i + 1)) := by show _ = _; rw [← HK.out]; exact pkd_set L n2 i hiL
          have HXO : Hid _ := (HST.out.1.ok x (by rw [← HX.out]; exact getD_mem (by have := HN2.out; omega)))
          have HMC : Hid (0 ≤ (madeT T f L i).ct ∧ (madeT T f L i).ct ≤ 600 * 100000) := by
            show _ ∧ _
            have h1 := ctE_le (tabsAt T (L.take i)) (tabs_take_mem (fun j hj => by rw [HN2.out]; exact HLB.out j hj) (fun y hy => by have := (HST.out.1.ok y hy).1; unfold OkT at this; omega))
            have h2 : (tabsAt T (L.take i)).length ≤ i := by rw [tabsAt_len, List.length_take]; omega
            have e : (madeT T f L i).ct = ctE (tabsAt T (L.take i)) := rfl
            rw [e]
            omega
          obtain ⟨mt, HMT⟩ : ∃ m, Hid (madeT T f L i = m) := ⟨_, rfl⟩
          rw [HMT.out] at HI HMS HMC
          have HEV : Hid (∀ W, Below w3.heap.size w3 W → W.cell? ⟨b, off + i, none⟩ = some (.int .i64 (k : Int)) ∧ W.rangeAt b2 (off2 + k * 36) (encT x)) := fun W hW => by
            obtain ⟨b9, o9, h9, h8⟩ := (HI3.out.keep hW).2 (by omega)
            cases h9
            have h7 := h8 i hi
            rw [HK.out] at h7
            obtain ⟨b9, o9, h9, hEn⟩ := (HOV3.out.keep hW).2 (by have := HKN.out; omega)
            cases h9
            exact ⟨h7, tabs_range hEn k (by have := HN2.out; have := HKN.out; omega) HX.out⟩
          have hk1 : (k : Int) < (n2 : Int) := by omega
          have hk2 : decide ((n2 : Int) ≤ (k : Int)) = false := decide_eq_false (by omega)
          have hk3 : decide (n2 ≤ k) = false := decide_eq_false (by omega)
          have h0x : decide ((k : Int) < 0) = false := decide_eq_false (by omega)
          obtain ⟨e1, hrx⟩ := HEV.out wr hei.bel
          have HRX : Hid _ := hrx
          clear hei hiL hrx hkn2
          go_upto_region 24 with fail
          clear hk2 hk3 h0x
          go_wp2_with (first | (refine wpList_load_mid rfl 32 (.tmp 107) rfl b2 (off2 + k * 36) rfl (encT x) _ HRX.out Try.underlying32 rfl (sizeT x) ?_) | (refine wpList_store_box _ rfl (.tmp 13) (.tmp 108) rfl wr.heap.size rfl x rfl _ (heap_alloc_new wr _) rfl ?_))
          intro wa hbox hchg
          have hba : Below wr.heap.size wr wa := (bel_alloc wr _).trans (hchg.below (Nat.le_refl _) (by simp))
          have HIA : Hid (EI w3 wa gm gf mt (pkd L n2 i)) := HI.out.keep hba
          have HBX : Hid (Box wa wr.heap.size x) := hbox
          obtain ⟨gt, HGT⟩ : ∃ g, Hid (wr.heap.size = g) := ⟨_, rfl⟩
          have HNE : Hid (gt ≠ gm ∧ gt ≠ gf) := by
            have h1 := HI.out.box.lt; have h2 := HI.out.flag.lt; have h3 := HGT.out
            exact ⟨by omega, by omega⟩
          rw [HGT.out] at HBX
          rw [HGT.out]
          clear hbox hchg hba e1 HI
          have e1 := (HEV.out wa HIA.out.bel).1
          have f1 : wa.cell? ⟨gf, k, none⟩ = some (.bool ((pkd L n2 i).getD k false)) := HIA.out.flag.at_ (by rw [pkd_len]; exact HKN.out)
          have f2 : wa.frozen? ⟨gf, k, none⟩ = false := HIA.out.flag.frozen k
          go_upto_region 26 with fail
          have HIB : Hid (EI w3 (wa.setCell ⟨gf, k, none⟩ (.bool true)) gm gf mt (pkd L n2 (i + 1)) ∧ Box (wa.setCell ⟨gf, k, none⟩ (.bool true)) gt x) := ⟨by rw [← HPS.out]; exact HIA.out.setF, (set_other HIA.out.flag HNE.out.2).trans HBX.out⟩
          clear e1 f1 f2 HIA HBX
          generalize wa.setCell ⟨gf, k, none⟩ (.bool true) = wb at *
          obtain ⟨-, m1, m3, m4⟩ := HIB.out.1.box.four
          obtain ⟨-, t1, -, -⟩ := HIB.out.2.four
          have fz := HIB.out.1.box.frozen 1
          have hwc := ends_w HMC.out HXO.out
          have HWC : Hid _ := hwc
          clear m3 m4
          go_upto_region 27 with fail
          have HIC : Hid (EI w3 (wb.setCell ⟨gm, 1, none⟩ (.int .i64 (mt.ct + x.ct))) gm gf (mt.cnt (mt.ct + x.ct)) (pkd L n2 (i + 1)) ∧ Box (wb.setCell ⟨gm, 1, none⟩ (.int .i64 (mt.ct + x.ct))) gt x) := ⟨HIB.out.1.setM (encT_cnt mt _), HIB.out.2.set_far HIB.out.1.box HNE.out.1⟩
          clear m1 t1 fz hwc HIB
          generalize wb.setCell ⟨gm, 1, none⟩ (.int .i64 (mt.ct + x.ct)) = wc at *
          obtain ⟨mb, HMB2⟩ : ∃ m, Hid (mt.cnt (mt.ct + x.ct) = m) := ⟨_, rfl⟩
          have HMF : Hid (mb.first = mt.first ∧ mb.last = mt.last) := by show _ ∧ _; rw [← HMB2.out]; exact ⟨rfl, rfl⟩
          rw [HMB2.out] at HIC HMS
          have m3 : wc.cell? ⟨gm, 34, none⟩ = some (.string mb.first) := HIC.out.1.box.four.2.2.1
          have t3 : wc.cell? ⟨gt, 34, none⟩ = some (.string x.first) := HIC.out.2.four.2.2.1
          have fz := HIC.out.1.box.frozen 34
          go_wp2_with fail
          rw [run_min_str]
          simp only [Result.andThen]
          rw [Oper.upon_value]
          go_upto_region 28 with fail
          have HID : Hid (EI w3 (wc.setCell ⟨gm, 34, none⟩ (.string (minS mb.first x.first))) gm gf (mb.fst (minS mb.first x.first)) (pkd L n2 (i + 1)) ∧ Box (wc.setCell ⟨gm, 34, none⟩ (.string (minS mb.first x.first))) gt x) := ⟨HIC.out.1.setM (encT_fst mb _), HIC.out.2.set_far HIC.out.1.box HNE.out.1⟩
          clear m3 t3 fz HIC
          generalize wc.setCell ⟨gm, 34, none⟩ (.string (minS mb.first x.first)) = we at *
          obtain ⟨md, HMD⟩ : ∃ m, Hid (mb.fst (minS mb.first x.first) = m) := ⟨_, rfl⟩
          have HML : Hid (md.last = mb.last) := by show _ = _; rw [← HMD.out]; rfl
          rw [HMD.out] at HID
          have m4 : we.cell? ⟨gm, 35, none⟩ = some (.string md.last) := HID.out.1.box.four.2.2.2
          have t4 : we.cell? ⟨gt, 35, none⟩ = some (.string x.last) := HID.out.2.four.2.2.2
          have fz := HID.out.1.box.frozen 35
          go_wp2_with fail
          rw [run_max_str]
          simp only [Result.andThen]
          rw [Oper.upon_value]
          go_upto_region 21 with fail
          have HIE : Hid (EI w3 (we.setCell ⟨gm, 35, none⟩ (.string (maxS md.last x.last))) gm gf (md.lst (maxS md.last x.last)) (pkd L n2 (i + 1))) := HID.out.1.setM (encT_lst md _)
          have HFIN : Hid (madeT T f L (i + 1) = md.lst (maxS md.last x.last)) := by show _ = _; rw [HMS.out, ← HMF.out.1, ← HMF.out.2, ← HML.out, HMD.out]
          clear m4 t4 fz HID
          generalize we.setCell ⟨gm, 35, none⟩ (.string (maxS md.last x.last)) = wf at *
          go_wp2
          go_roundw
          case rel => exact ⟨i + 1, by go_num, by omega, by rw [HFIN.out]; exact HIE.out⟩
          case measure => simp [intOf]; omega
        · have hiz : ¬ (i : Int) < (q : Int) := by omega
          obtain rfl : i = q := by omega
          have HMK : Hid (EI w3 wr gm gf (madeT T f L i) ((List.range n2).map (inB T f))) := by
            have h1 := pkd_all T f
            rw [HL.out, HN2.out, HQ.out] at h1
            rw [← h1]; exact HI.out
          have HQL2 : Hid (L.length = i) := HQ.out
          obtain ⟨mk, HMK2⟩ : ∃ m, Hid (madeT T f L i = m) := ⟨_, rfl⟩
          rw [HMK2.out] at HMK
          obtain ⟨w6, hw6⟩ : ∃ W, W = wr := ⟨_, rfl⟩
          subst hw6
          have HBM : Hid (Box w6 gm mk) := HMK.out.box
          have HB6 : Hid (Below w.heap.size w w6) := HB3.out.trans (HMK.out.bel.mono HB3.out.size)
          have HPV : Hid (∀ W, Below w6.heap.size w6 W → True ∧ True ∧ True) := fun _ _ => ⟨trivial, trivial, trivial⟩
          clear HPV hei HI
          go_wp2
          go_loopw [14, 15, 16] (fun o pt kx wr => ∃ (p : Nat) (put : Bool) (Mx : List Tb), kx = .int .i64 p ∧ p ≤ n2 ∧ pt = .bool put ∧ Hid (Mx.Perm (tabsAt T (outN T f p) ++ if put then [mk] else [])) ∧ wr.ownsRow w6.heap.size 32 36 o Mx.length (flatT Mx) ∧ Below w6.heap.size w6 wr) (fun _ _ kx _ => n2 - (intOf kx).toNat)
          case atStart => exact ⟨0, false, [], rfl, by omega, rfl, (by show List.Perm _ _; simp [outN, tabsAt]), own_emptyT w6, bel_alloc _ _⟩
          case round =>
            obtain ⟨p, put, Mx, rfl, hpn, rfl, HPM, hown, hbel⟩ := hrel
            have HOW : Hid (wr.ownsRow w6.heap.size 32 36 u14 Mx.length (flatT Mx) ∧ Below w6.heap.size w6 wr) := And.intro hown hbel
            have HML : Hid (Mx.length ≤ 700) := by
              show _ ≤ _
              have h1 := HPM.out.length_eq
              rw [List.length_append, tabsAt_len] at h1
              have h2 := outN_le T f p
              have h3 := HFL.out
              have h4 : (if put then [mk] else []).length ≤ 1 := by cases put <;> simp
              omega
            by_cases hp : p < n2
            · have hpz : (p : Int) < (n2 : Int) := by omega
              have hp6 : (p : Int) < 601 := by have := HFL.out; omega
              have f1 : wr.cell? ⟨gf, p, none⟩ = some (.bool (inB T f p)) := by
                have := (HMK.out.flag.keep hbel).at_ (i := p) (by simp; exact hp)
                rw [this]
                simp [hp]
              obtain ⟨x, HX⟩ : ∃ x, Hid (T.getD p zT = x) := ⟨_, rfl⟩
              have HPV : Hid (∀ W, Below w6.heap.size w6 W → W.cell? ⟨b2, off2 + p * 36, none⟩ = some (.int .i64 x.lv) ∧ W.cell? ⟨b2, off2 + p * 36 + 34, none⟩ = some (.string x.first) ∧ W.rangeAt b2 (off2 + p * 36) (encT x)) := fun W hW => by
                obtain ⟨b9, o9, h9, hEn⟩ := ((HOV3.out.keep HMK.out.bel).keep hW).2 (by omega)
                cases h9
                have hr := tabs_range hEn p (by have := HN2.out; omega) HX.out
                have h4 := range_four hr
                exact ⟨h4.1, h4.2.2.1, hr⟩
              have HSU : Hid _ := outN_succ T f p
              obtain ⟨c0, c3, -⟩ := HPV.out wr hbel
              have m3 : wr.cell? ⟨gm, 34, none⟩ = some (.string mk.first) := (HBM.out.keep hbel).four.2.2.1
              clear hown hbel
              cases hib : inB T f p with
              | true =>
                have HIS : Hid (outN T f (p + 1) = outN T f p) := by show _ = _; rw [HSU.out, hib]; rfl
                rw [hib] at f1
                clear hib HSU c0 c3 m3
                go_wp2
                go_roundw
                case rel => exact ⟨p + 1, put, Mx, by go_num, by omega, rfl, (by rw [HIS.out]; exact HPM), HOW.out.1, HOW.out.2⟩
                case measure => simp [intOf]; omega
              | false =>
                have HIS : Hid (outN T f (p + 1) = outN T f p ++ [p]) := by show _ = _; rw [HSU.out, hib]; rfl
                have HTS : Hid (tabsAt T (outN T f p ++ [p]) = tabsAt T (outN T f p) ++ [x]) := by show _ = _; rw [tabsAt_append]; congr 1; show [T.getD p zT] = _; rw [HX.out]
                rw [hib] at f1
                clear hib HSU
                cases put with
                | true =>
                  go_upto_region 35 with fail
                  clear f1
                  go_wp2_with fail
                  go_quiet (fail)
                  have HBD0 : Hid (Below w6.heap.size w6 (wr.drewN nq)) := bel_drewN HOW.out.2 nq
                  have HOD0 : Hid ((wr.drewN nq).ownsRow w6.heap.size 32 36 u14 Mx.length (flatT Mx)) := own_below HOW.out.1 (bel_drewN (Below.refl _ _) nq) (Nat.le_refl _)
                  clear c0 c3 m3 HOW
                  generalize wr.drewN nq = wg at *
                  obtain ⟨D, HDD⟩ : ∃ D, Hid (Mx = D) := ⟨_, rfl⟩
                  rw [HDD.out] at HPM HOD0
                  have HDL : Hid (D.length ≤ 700) := by show _ ≤ _; rw [← HDD.out]; exact HML.out
                  have HBD : Hid (Below w6.heap.size w6 wg) := HBD0.out
                  have HOD : Hid (wg.ownsRow w6.heap.size 32 36 u14 D.length (flatT D)) := HOD0.out
                  have HRX2 : Hid (wg.rangeAt b2 (off2 + p * 36) (encT x)) := (HPV.out wg HBD.out).2.2
                  have HO5 : Hid ((wg.alloc (.cells (encT x).toArray 32)).ownsRow w6.heap.size 32 36 u14 D.length (flatT D)) := HOD.out.alloc _
                  have HS5 : Hid (w6.heap.size ≤ (wg.alloc (.cells (encT x).toArray 32)).heap.size) := by show _ ≤ _; have := HBD.out.size; simp; omega
                  go_upto_region 38 with fail
                  go_wp2_with (first | (refine wpList_load_mid rfl 32 (.tmp 181) rfl b2 (off2 + p * 36) rfl (encT x) _ HRX2.out Try.underlying32 rfl (sizeT x) ?_) | (refine wpList_build_tab _ rfl (.tmp 182) rfl x rfl ?_) | (at_builtin; refine wpList_append_tabs _ rfl (.tmp 178) (.tmp 183) rfl w6.heap.size _ D.length D rfl HO5.out HS5.out _ 1 1 [x] rfl (tabsV_one wg x) (fun h => by cases h) (by have := HDL.out; omega) ?_))
                  intro v' w8 hown8 hb8
                  have HN : Hid (w8.ownsRow w6.heap.size 32 36 v' (D ++ [x]).length (flatT (D ++ [x])) ∧ Below w6.heap.size w6 w8) := And.intro (by simpa using hown8) ((HBD.out.alloc HBD.out.size _).trans hb8)
                  clear hown8 hb8
                  go_wp2
                  go_roundw
                  case rel => exact ⟨p + 1, true, D ++ [x], by go_num, by omega, rfl, (by show List.Perm _ _; rw [HIS.out, HTS.out]; exact perm_snoc HPM.out), HN.out.1, HN.out.2⟩
                  case measure => simp [intOf]; omega
                | false =>
                  by_cases g0 : (f : Int) + 1 < x.lv
                  · have g0z : decide ((f : Int) + 1 < x.lv) = true := decide_eq_true g0
                    have HG0 : Hid _ := g0
                    go_upto_region 35 with fail
                    clear f1
                    go_wp2_with fail
                    go_quiet (fail)
                    have HBD0 : Hid (Below w6.heap.size w6 (wr.drewN nq)) := bel_drewN HOW.out.2 nq
                    have HOD0 : Hid ((wr.drewN nq).ownsRow w6.heap.size 32 36 u14 Mx.length (flatT Mx)) := own_below HOW.out.1 (bel_drewN (Below.refl _ _) nq) (Nat.le_refl _)
                    clear c0 c3 m3 HOW
                    generalize wr.drewN nq = wg at *
                    have HRM : Hid (Box wg gm mk) := HBM.out.keep HBD0.out
                    have HO4 : Hid ((wg.alloc (.cells (encT mk).toArray 32)).ownsRow w6.heap.size 32 36 u14 Mx.length (flatT Mx)) := HOD0.out.alloc _
                    have HS4 : Hid (w6.heap.size ≤ (wg.alloc (.cells (encT mk).toArray 32)).heap.size) := by show _ ≤ _; have := HBD0.out.size; simp; omega
                    go_upto_region 36 with fail
                    clear g0 g0z
                    go_wp2_with (first | (refine wpList_load_row rfl 32 (.tmp 10) rfl gm rfl 32 (encT mk).toArray (0, 0) _ HRM.out Try.underlying32 rfl (sizeTA mk) ?_) | (refine wpList_build_tab _ rfl (.tmp 175) rfl mk rfl ?_) | (at_builtin; refine wpList_append_tabs _ rfl (.tmp 174) (.tmp 176) rfl w6.heap.size _ Mx.length Mx rfl HO4.out HS4.out _ 1 1 [mk] rfl (tabsV_one wg mk) (fun h => by cases h) (by have := HML.out; omega) ?_))
                    intro vz wz hownz hbz
                    obtain ⟨D, HDD⟩ : ∃ D, Hid (Mx ++ [mk] = D) := ⟨_, rfl⟩
                    have HOD : Hid (wz.ownsRow w6.heap.size 32 36 vz D.length (flatT D)) := by show World.ownsRow _ _ _ _ _ _ _; rw [← HDD.out]; simpa using hownz
                    have HBD : Hid (Below w6.heap.size w6 wz) := (HBD0.out.alloc HBD0.out.size _).trans hbz
                    have HDL : Hid (D.length ≤ 701) := by show _ ≤ _; rw [← HDD.out, List.length_append, List.length_singleton]; have := HML.out; omega
                    have HPD : Hid (D.Perm (tabsAt T (outN T f p) ++ [mk])) := by
                      show List.Perm _ _
                      rw [← HDD.out]
                      have h9 := HPM.out
                      simp only [Bool.false_eq_true, if_false, List.append_nil] at h9
                      exact h9.append_right [mk]
                    clear hownz hbz
                    have HRX2 : Hid (wz.rangeAt b2 (off2 + p * 36) (encT x)) := (HPV.out wz HBD.out).2.2
                    have HO5 : Hid ((wz.alloc (.cells (encT x).toArray 32)).ownsRow w6.heap.size 32 36 vz D.length (flatT D)) := HOD.out.alloc _
                    have HS5 : Hid (w6.heap.size ≤ (wz.alloc (.cells (encT x).toArray 32)).heap.size) := by show _ ≤ _; have := HBD.out.size; simp; omega
                    go_upto_region 38 with fail
                    go_wp2_with (first | (refine wpList_load_mid rfl 32 (.tmp 181) rfl b2 (off2 + p * 36) rfl (encT x) _ HRX2.out Try.underlying32 rfl (sizeT x) ?_) | (refine wpList_build_tab _ rfl (.tmp 182) rfl x rfl ?_) | (at_builtin; refine wpList_append_tabs _ rfl (.tmp 178) (.tmp 183) rfl w6.heap.size _ D.length D rfl HO5.out HS5.out _ 1 1 [x] rfl (tabsV_one wz x) (fun h => by cases h) (by have := HDL.out; omega) ?_))
                    intro v' w8 hown8 hb8
                    have HN : Hid (w8.ownsRow w6.heap.size 32 36 v' (D ++ [x]).length (flatT (D ++ [x])) ∧ Below w6.heap.size w6 w8) := And.intro (by simpa using hown8) ((HBD.out.alloc HBD.out.size _).trans hb8)
                    clear hown8 hb8
                    go_wp2
                    go_roundw
                    case rel => exact ⟨p + 1, true, D ++ [x], by go_num, by omega, rfl, (by show List.Perm _ _; rw [HIS.out, HTS.out]; exact perm_snoc HPD.out), HN.out.1, HN.out.2⟩
                    case measure => simp [intOf]; omega
                  · have g0z : decide ((f : Int) + 1 < x.lv) = false := decide_eq_false g0
                    by_cases g1 : x.lv = (f : Int) + 1
                    · have g1z : (x.lv == (f : Int) + 1) = true := by simpa using g1
                      have HG1 : Hid _ := g1
                      clear g1 g0
                      rcases le_cases x.first mk.first with ⟨a1, a3⟩ | ⟨a1, a2, a3⟩ | ⟨a1, a2, a3⟩
                      · clear a3
                        go_upto_region 35 with fail
                        clear f1
                        go_wp2_with fail
                        go_quiet (fail)
                        have HBD0 : Hid (Below w6.heap.size w6 (wr.drewN nq)) := bel_drewN HOW.out.2 nq
                        have HOD0 : Hid ((wr.drewN nq).ownsRow w6.heap.size 32 36 u14 Mx.length (flatT Mx)) := own_below HOW.out.1 (bel_drewN (Below.refl _ _) nq) (Nat.le_refl _)
                        clear c0 c3 m3 HOW
                        generalize wr.drewN nq = wg at *
                        obtain ⟨D, HDD⟩ : ∃ D, Hid (Mx = D) := ⟨_, rfl⟩
                        rw [HDD.out] at HPM HOD0
                        have HDL : Hid (D.length ≤ 700) := by show _ ≤ _; rw [← HDD.out]; exact HML.out
                        have HBD : Hid (Below w6.heap.size w6 wg) := HBD0.out
                        have HOD : Hid (wg.ownsRow w6.heap.size 32 36 u14 D.length (flatT D)) := HOD0.out
                        have HRX2 : Hid (wg.rangeAt b2 (off2 + p * 36) (encT x)) := (HPV.out wg HBD.out).2.2
                        have HO5 : Hid ((wg.alloc (.cells (encT x).toArray 32)).ownsRow w6.heap.size 32 36 u14 D.length (flatT D)) := HOD.out.alloc _
                        have HS5 : Hid (w6.heap.size ≤ (wg.alloc (.cells (encT x).toArray 32)).heap.size) := by show _ ≤ _; have := HBD.out.size; simp; omega
                        go_upto_region 38 with fail
                        clear g0z g1z a1
                        go_wp2_with (first | (refine wpList_load_mid rfl 32 (.tmp 181) rfl b2 (off2 + p * 36) rfl (encT x) _ HRX2.out Try.underlying32 rfl (sizeT x) ?_) | (refine wpList_build_tab _ rfl (.tmp 182) rfl x rfl ?_) | (at_builtin; refine wpList_append_tabs _ rfl (.tmp 178) (.tmp 183) rfl w6.heap.size _ D.length D rfl HO5.out HS5.out _ 1 1 [x] rfl (tabsV_one wg x) (fun h => by cases h) (by have := HDL.out; omega) ?_))
                        intro v' w8 hown8 hb8
                        have HN : Hid (w8.ownsRow w6.heap.size 32 36 v' (D ++ [x]).length (flatT (D ++ [x])) ∧ Below w6.heap.size w6 w8) := And.intro (by simpa using hown8) ((HBD.out.alloc HBD.out.size _).trans hb8)
                        clear hown8 hb8
                        go_wp2
                        go_roundw
                        case rel => exact ⟨p + 1, false, D ++ [x], by go_num, by omega, rfl, (by show List.Perm _ _; rw [HIS.out, HTS.out]; exact perm_snoc HPM.out), HN.out.1, HN.out.2⟩
                        case measure => simp [intOf]; omega
                      · clear a3
                        go_upto_region 35 with fail
                        clear f1
                        go_wp2_with fail
                        go_quiet (fail)
                        have HBD0 : Hid (Below w6.heap.size w6 (wr.drewN nq)) := bel_drewN HOW.out.2 nq
                        have HOD0 : Hid ((wr.drewN nq).ownsRow w6.heap.size 32 36 u14 Mx.length (flatT Mx)) := own_below HOW.out.1 (bel_drewN (Below.refl _ _) nq) (Nat.le_refl _)
                        clear c0 c3 m3 HOW
                        generalize wr.drewN nq = wg at *
                        obtain ⟨D, HDD⟩ : ∃ D, Hid (Mx = D) := ⟨_, rfl⟩
                        rw [HDD.out] at HPM HOD0
                        have HDL : Hid (D.length ≤ 700) := by show _ ≤ _; rw [← HDD.out]; exact HML.out
                        have HBD : Hid (Below w6.heap.size w6 wg) := HBD0.out
                        have HOD : Hid (wg.ownsRow w6.heap.size 32 36 u14 D.length (flatT D)) := HOD0.out
                        have HRX2 : Hid (wg.rangeAt b2 (off2 + p * 36) (encT x)) := (HPV.out wg HBD.out).2.2
                        have HO5 : Hid ((wg.alloc (.cells (encT x).toArray 32)).ownsRow w6.heap.size 32 36 u14 D.length (flatT D)) := HOD.out.alloc _
                        have HS5 : Hid (w6.heap.size ≤ (wg.alloc (.cells (encT x).toArray 32)).heap.size) := by show _ ≤ _; have := HBD.out.size; simp; omega
                        go_upto_region 38 with fail
                        clear g0z g1z a1 a2
                        go_wp2_with (first | (refine wpList_load_mid rfl 32 (.tmp 181) rfl b2 (off2 + p * 36) rfl (encT x) _ HRX2.out Try.underlying32 rfl (sizeT x) ?_) | (refine wpList_build_tab _ rfl (.tmp 182) rfl x rfl ?_) | (at_builtin; refine wpList_append_tabs _ rfl (.tmp 178) (.tmp 183) rfl w6.heap.size _ D.length D rfl HO5.out HS5.out _ 1 1 [x] rfl (tabsV_one wg x) (fun h => by cases h) (by have := HDL.out; omega) ?_))
                        intro v' w8 hown8 hb8
                        have HN : Hid (w8.ownsRow w6.heap.size 32 36 v' (D ++ [x]).length (flatT (D ++ [x])) ∧ Below w6.heap.size w6 w8) := And.intro (by simpa using hown8) ((HBD.out.alloc HBD.out.size _).trans hb8)
                        clear hown8 hb8
                        go_wp2
                        go_roundw
                        case rel => exact ⟨p + 1, false, D ++ [x], by go_num, by omega, rfl, (by show List.Perm _ _; rw [HIS.out, HTS.out]; exact perm_snoc HPM.out), HN.out.1, HN.out.2⟩
                        case measure => simp [intOf]; omega
                      · clear a3
                        go_upto_region 35 with fail
                        clear f1
                        go_wp2_with fail
                        go_quiet (fail)
                        have HBD0 : Hid (Below w6.heap.size w6 (wr.drewN nq)) := bel_drewN HOW.out.2 nq
                        have HOD0 : Hid ((wr.drewN nq).ownsRow w6.heap.size 32 36 u14 Mx.length (flatT Mx)) := own_below HOW.out.1 (bel_drewN (Below.refl _ _) nq) (Nat.le_refl _)
                        clear c0 c3 m3 HOW
                        generalize wr.drewN nq = wg at *
                        have HRM : Hid (Box wg gm mk) := HBM.out.keep HBD0.out
                        have HO4 : Hid ((wg.alloc (.cells (encT mk).toArray 32)).ownsRow w6.heap.size 32 36 u14 Mx.length (flatT Mx)) := HOD0.out.alloc _
                        have HS4 : Hid (w6.heap.size ≤ (wg.alloc (.cells (encT mk).toArray 32)).heap.size) := by show _ ≤ _; have := HBD0.out.size; simp; omega
                        go_upto_region 36 with fail
                        clear g0z g1z a1 a2
                        go_wp2_with (first | (refine wpList_load_row rfl 32 (.tmp 10) rfl gm rfl 32 (encT mk).toArray (0, 0) _ HRM.out Try.underlying32 rfl (sizeTA mk) ?_) | (refine wpList_build_tab _ rfl (.tmp 175) rfl mk rfl ?_) | (at_builtin; refine wpList_append_tabs _ rfl (.tmp 174) (.tmp 176) rfl w6.heap.size _ Mx.length Mx rfl HO4.out HS4.out _ 1 1 [mk] rfl (tabsV_one wg mk) (fun h => by cases h) (by have := HML.out; omega) ?_))
                        intro vz wz hownz hbz
                        obtain ⟨D, HDD⟩ : ∃ D, Hid (Mx ++ [mk] = D) := ⟨_, rfl⟩
                        have HOD : Hid (wz.ownsRow w6.heap.size 32 36 vz D.length (flatT D)) := by show World.ownsRow _ _ _ _ _ _ _; rw [← HDD.out]; simpa using hownz
                        have HBD : Hid (Below w6.heap.size w6 wz) := (HBD0.out.alloc HBD0.out.size _).trans hbz
                        have HDL : Hid (D.length ≤ 701) := by show _ ≤ _; rw [← HDD.out, List.length_append, List.length_singleton]; have := HML.out; omega
                        have HPD : Hid (D.Perm (tabsAt T (outN T f p) ++ [mk])) := by
                          show List.Perm _ _
                          rw [← HDD.out]
                          have h9 := HPM.out
                          simp only [Bool.false_eq_true, if_false, List.append_nil] at h9
                          exact h9.append_right [mk]
                        clear hownz hbz
                        have HRX2 : Hid (wz.rangeAt b2 (off2 + p * 36) (encT x)) := (HPV.out wz HBD.out).2.2
                        have HO5 : Hid ((wz.alloc (.cells (encT x).toArray 32)).ownsRow w6.heap.size 32 36 vz D.length (flatT D)) := HOD.out.alloc _
                        have HS5 : Hid (w6.heap.size ≤ (wz.alloc (.cells (encT x).toArray 32)).heap.size) := by show _ ≤ _; have := HBD.out.size; simp; omega
                        go_upto_region 38 with fail
                        go_wp2_with (first | (refine wpList_load_mid rfl 32 (.tmp 181) rfl b2 (off2 + p * 36) rfl (encT x) _ HRX2.out Try.underlying32 rfl (sizeT x) ?_) | (refine wpList_build_tab _ rfl (.tmp 182) rfl x rfl ?_) | (at_builtin; refine wpList_append_tabs _ rfl (.tmp 178) (.tmp 183) rfl w6.heap.size _ D.length D rfl HO5.out HS5.out _ 1 1 [x] rfl (tabsV_one wz x) (fun h => by cases h) (by have := HDL.out; omega) ?_))
                        intro v' w8 hown8 hb8
                        have HN : Hid (w8.ownsRow w6.heap.size 32 36 v' (D ++ [x]).length (flatT (D ++ [x])) ∧ Below w6.heap.size w6 w8) := And.intro (by simpa using hown8) ((HBD.out.alloc HBD.out.size _).trans hb8)
                        clear hown8 hb8
                        go_wp2
                        go_roundw
                        case rel => exact ⟨p + 1, true, D ++ [x], by go_num, by omega, rfl, (by show List.Perm _ _; rw [HIS.out, HTS.out]; exact perm_snoc HPD.out), HN.out.1, HN.out.2⟩
                        case measure => simp [intOf]; omega
                    · have g1z : (x.lv == (f : Int) + 1) = false := by simpa using g1
                      clear g1 g0
                      go_upto_region 35 with fail
                      clear f1
                      go_wp2_with fail
                      go_quiet (fail)
                      have HBD0 : Hid (Below w6.heap.size w6 (wr.drewN nq)) := bel_drewN HOW.out.2 nq
                      have HOD0 : Hid ((wr.drewN nq).ownsRow w6.heap.size 32 36 u14 Mx.length (flatT Mx)) := own_below HOW.out.1 (bel_drewN (Below.refl _ _) nq) (Nat.le_refl _)
                      clear c0 c3 m3 HOW
                      generalize wr.drewN nq = wg at *
                      obtain ⟨D, HDD⟩ : ∃ D, Hid (Mx = D) := ⟨_, rfl⟩
                      rw [HDD.out] at HPM HOD0
                      have HDL : Hid (D.length ≤ 700) := by show _ ≤ _; rw [← HDD.out]; exact HML.out
                      have HBD : Hid (Below w6.heap.size w6 wg) := HBD0.out
                      have HOD : Hid (wg.ownsRow w6.heap.size 32 36 u14 D.length (flatT D)) := HOD0.out
                      have HRX2 : Hid (wg.rangeAt b2 (off2 + p * 36) (encT x)) := (HPV.out wg HBD.out).2.2
                      have HO5 : Hid ((wg.alloc (.cells (encT x).toArray 32)).ownsRow w6.heap.size 32 36 u14 D.length (flatT D)) := HOD.out.alloc _
                      have HS5 : Hid (w6.heap.size ≤ (wg.alloc (.cells (encT x).toArray 32)).heap.size) := by show _ ≤ _; have := HBD.out.size; simp; omega
                      go_upto_region 38 with fail
                      clear g0z g1z
                      go_wp2_with (first | (refine wpList_load_mid rfl 32 (.tmp 181) rfl b2 (off2 + p * 36) rfl (encT x) _ HRX2.out Try.underlying32 rfl (sizeT x) ?_) | (refine wpList_build_tab _ rfl (.tmp 182) rfl x rfl ?_) | (at_builtin; refine wpList_append_tabs _ rfl (.tmp 178) (.tmp 183) rfl w6.heap.size _ D.length D rfl HO5.out HS5.out _ 1 1 [x] rfl (tabsV_one wg x) (fun h => by cases h) (by have := HDL.out; omega) ?_))
                      intro v' w8 hown8 hb8
                      have HN : Hid (w8.ownsRow w6.heap.size 32 36 v' (D ++ [x]).length (flatT (D ++ [x])) ∧ Below w6.heap.size w6 w8) := And.intro (by simpa using hown8) ((HBD.out.alloc HBD.out.size _).trans hb8)
                      clear hown8 hb8
                      go_wp2
                      go_roundw
                      case rel => exact ⟨p + 1, false, D ++ [x], by go_num, by omega, rfl, (by show List.Perm _ _; rw [HIS.out, HTS.out]; exact perm_snoc HPM.out), HN.out.1, HN.out.2⟩
                      case measure => simp [intOf]; omega
            · have hpz : ¬ (p : Int) < (n2 : Int) := by omega
              obtain rfl : p = n2 := by omega
              have HEM : Hid (∀ N : List Tb, N.Perm (tabsAt T (outN T f p) ++ [mk]) → StT N ∧ (s : Int) + 1 + scE N ≤ M) := fun N hN => by
                have hpm : N.Perm (tabsAt T (outN T f T.length) ++ [madeT T f (inL T f) (inL T f).length]) := by rw [HN2.out, HL.out, HQL2.out, HMK2.out]; exact hN
                obtain ⟨h1, h2⟩ := ends_math HST.out.1 HPF.out hpm
                exact ⟨h1, by have := HST.out.2; omega⟩
              have HW6 : Hid (w.heap.size ≤ w6.heap.size) := HB6.out.size
              clear hown hbel
              cases put with
              | true =>
                have HEN : Hid _ := HEM.out Mx HPM.out
                have HOE : Hid (wr.ownsRow w.heap.size 32 36 u14 Mx.length (flatT Mx)) := own_deeper HOW.out.1 HW6.out
                have HBE : Hid (Below w.heap.size w wr) := HB6.out.trans (HOW.out.2.mono HB6.out.size)
                go_wp2
                go_roundw
                case rel => exact ⟨s + 1, Mx, by go_num, HEN, HOE.out, HBE.out⟩
                case measure => simp [intOf]; omega
              | false =>
                have HPD : Hid ((Mx ++ [mk]).Perm (tabsAt T (outN T f p) ++ [mk])) := by
                  show List.Perm _ _
                  have h9 := HPM.out
                  simp only [Bool.false_eq_true, if_false, List.append_nil] at h9
                  exact h9.append_right [mk]
                have HEN : Hid _ := HEM.out (Mx ++ [mk]) HPD.out
                have HRM : Hid (Box wr gm mk) := HBM.out.keep HOW.out.2
                have HO4 : Hid ((wr.alloc (.cells (encT mk).toArray 32)).ownsRow w6.heap.size 32 36 u14 Mx.length (flatT Mx)) := HOW.out.1.alloc _
                have HS4 : Hid (w6.heap.size ≤ (wr.alloc (.cells (encT mk).toArray 32)).heap.size) := by show _ ≤ _; have := HOW.out.2.size; simp; omega
                go_upto_region 40 with fail
                go_wp2_with (first | (refine wpList_load_row rfl 32 (.tmp 10) rfl gm rfl 32 (encT mk).toArray (0, 0) _ HRM.out Try.underlying32 rfl (sizeTA mk) ?_) | (refine wpList_build_tab _ rfl (.tmp 188) rfl mk rfl ?_) | (at_builtin; refine wpList_append_tabs _ rfl (.tmp 187) (.tmp 189) rfl w6.heap.size _ Mx.length Mx rfl HO4.out HS4.out _ 1 1 [mk] rfl (tabsV_one wr mk) (fun h => by cases h) (by have := HML.out; omega) ?_))
                intro vz wz hownz hbz
                have HOE : Hid (wz.ownsRow w.heap.size 32 36 vz (Mx ++ [mk]).length (flatT (Mx ++ [mk]))) := own_deeper (by simpa using hownz) HW6.out
                have HBE : Hid (Below w.heap.size w wz) := HB6.out.trans (((HOW.out.2.alloc HOW.out.2.size _).trans hbz).mono HB6.out.size)
                clear hownz hbz
                go_wp2
                go_roundw
                case rel => exact ⟨s + 1, Mx ++ [mk], by go_num, HEN, HOE.out, HBE.out⟩
                case measure => simp [intOf]; omega
end Go.Proofs.Ytnkbhojflcckmaa
