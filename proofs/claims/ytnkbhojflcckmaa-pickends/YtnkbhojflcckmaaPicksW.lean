/-
  PickPicks: its walk.
-/
import Derived.Test.YtnkbhojflcckmaaPkW
import Derived.Test.YtnkbhojflcckmaaPkU
import Derived.Test.YtnkbhojflcckmaaPkX
namespace Go.Proofs.Ytnkbhojflcckmaa
open Go.RowKit
set_option linter.unusedSectionVars false
theorem TabsV.take {w : World} {ao : Option Addr} {n : Nat} {ts : List Tb} (h : TabsV w ao n ts) (m : Nat) (hm : m ≤ n) : TabsV w ao m (ts.take m) :=
  ⟨by rw [List.length_take, h.1]; omega, fun hp => by
    obtain ⟨b, off, h2, h3⟩ := h.2 (by omega)
    refine ⟨b, off, h2, fun j u hu => h3 j u ?_⟩
    have hj := (List.getElem?_eq_some_iff.1 hu).1
    have e : flatT ts = flatT (ts.take m) ++ flatT (ts.drop m) := by rw [← flatT_append, List.take_append_drop]
    rw [e, List.getElem?_append_left hj]
    exact hu⟩
set_option maxRecDepth 100000 in
set_option maxHeartbeats 4000000 in
theorem picks_walk (ao : Option Addr) (n c : Nat) (ts : List Tb) (level : Int) (w : World) (hE : TabsV w ao n ts) (h0 : ao = none → c = 0) (hn : n ≤ 9223372036854775807) (hc : n ≤ c ∧ c ≤ 9223372036854775807) :
    Calls Try.prog 3 #[.slice ao n c, .int .i64 level] w fun e w' => e = .returned (.bool true) ∧ Below w.heap.size w w' := by
  obtain ⟨m, hm⟩ : ∃ m, m = min n 200 := ⟨_, rfl⟩
  have HMN : Hid (m ≤ n ∧ m ≤ 200) := by show _ ∧ _; omega
  obtain ⟨T, HT⟩ : ∃ T, Hid (ts.take m = T) := ⟨_, rfl⟩
  have HE : Hid (∀ V, Below w.heap.size w V → TabsV V ao m T) := fun V hV => by rw [← HT.out]; exact (hE.take m HMN.out.1).keep hV
  have H0 : Hid _ := h0
  have HCC : Hid _ := hc
  have C0 : Hid _ := shown_any w
  have hz : min (n : Int) 200 = (m : Int) := by omega
  have hz2 : (m : Int) ≤ (c : Int) := by omega
  clear hE h0 hc hm
  go_enter Try.func3, Try.ntmps3
  go_wp2_with fail
  refine Calls.mono C0.out ?_
  rintro e w1 ⟨rfl, hb1⟩
  have HB1 : Hid (Below w.heap.size w w1) := hb1
  have HO5 : Hid ((w1.alloc (.cells #[] 32)).ownsRow w1.heap.size 32 36 (.slice (some ⟨w1.heap.size, 0, none⟩) 0 0) 0 (flatT [])) := own_emptyT w1
  have HS5 : Hid (w1.heap.size ≤ (w1.alloc (.cells #[] 32)).heap.size) := by show _ ≤ _; simp
  have HT5 : Hid (TabsV (w1.alloc (.cells #[] 32)) ao m T) := (HE.out w1 hb1).keep (bel_alloc _ _)
  clear hb1 C0
  go_upto_region 3 with fail
  go_wp2_with (at_builtin; refine wpList_append_tabs _ rfl (.tmp 21) (.tmp 22) rfl w1.heap.size _ 0 [] rfl HO5.out HS5.out ao m c T rfl HT5.out H0.out (by have := HMN.out.2; omega) ?_)
  intro v w2 hown2 hb2
  have hTL : T.length = m := (HE.out w (Below.refl _ _)).1
  rw [hTL] at hown2
  obtain ⟨oo, oc, rfl, hov, -⟩ := own_tabsV hown2
  have HOV : Hid (TabsV w2 oo m T) := hov
  have HB2 : Hid (Below w.heap.size w w2) := (HB1.out.alloc HB1.out.size _).trans (hb2.mono HB1.out.size)
  clear hown2 hb2 hov hTL hz hz2
  have C1 : Hid _ := pick_any oo m oc T w2 HOV.out (by have := HMN.out.2; omega)
  go_wp2_with fail
  refine Calls.mono C1.out ?_
  rintro e w3 ⟨r3, k3, rfl, hi3, hb3⟩
  have HI3 : Hid (IntsV w3 r3 (pkL T).length (pkL T)) := hi3
  have HB3 : Hid (Below w.heap.size w w3) := HB2.out.trans (hb3.mono HB2.out.size)
  have HOV3 : Hid (TabsV w3 oo m T) := HOV.out.keep hb3
  clear hi3 hb3 C1
  have C2 : Hid _ := refPick_any ao m c T w3 (HE.out w3 HB3.out) (by have := HMN.out.2; omega)
  obtain ⟨q, HQ⟩ : ∃ q, Hid ((pkL T).length = q) := ⟨_, rfl⟩
  obtain ⟨tt, HTT⟩ : ∃ q, Hid (pkTo T = q) := ⟨_, rfl⟩
  obtain ⟨ok, HOK⟩ : ∃ q, Hid (pkOk T = q) := ⟨_, rfl⟩
  rw [HQ.out, HTT.out, HOK.out]
  go_wp2_with fail
  refine Calls.mono C2.out ?_
  rintro e w4 ⟨r4, k4, rfl, hi4, hb4⟩
  rw [HQ.out] at hi4
  rw [HQ.out] at HI3
  rw [HQ.out, HTT.out, HOK.out]
  have HI4 : Hid (IntsV w4 r4 q (pkL T)) := hi4
  have HI5 : Hid (IntsV w4 r3 q (pkL T)) := HI3.out.keep hb4
  have HB4 : Hid (Below w.heap.size w w4) := HB3.out.trans (hb4.mono HB3.out.size)
  have HOV4 : Hid (TabsV w4 oo m T) := HOV3.out.keep hb4
  clear hi4 hb4 C2 HI3
  have S1 : Hid _ := score_any oo m oc T w4 HOV4.out (by have := HMN.out.2; omega) enters26
  have K1 : Hid (∀ W, Calls Try.prog 14 #[.int .i64 level] W fun e w' => e = .returned (.int .i64 (capI level)) ∧ w' = W) := fun W => cap_any level W
  have K2 : Hid (∀ W, Calls Try.prog 15 #[.int .i64 level] W fun e w' => e = .returned (.int .i64 (capI level)) ∧ w' = W) := fun W => refCap_any level W
  obtain ⟨sc, HSC⟩ : ∃ z, Hid (scN T m = z) := ⟨_, rfl⟩
  obtain ⟨cp, HCP⟩ : ∃ z, Hid (capI level = z) := ⟨_, rfl⟩
  rw [HSC.out] at S1
  rw [HCP.out] at K1 K2
  have HQM : Hid (q ≤ 200) := by show q ≤ 200; rw [← HQ.out]; have h1 := pkL_len T; have h2 := (HE.out w (Below.refl _ _)).1; have h3 := HMN.out.2; omega
  go_upto_region 6 with fail
  go_wp2_with fail
  refine Calls.mono S1.out ?_
  rintro e w5 ⟨rfl, hb5⟩
  have HB5 : Hid (Below w.heap.size w w5 ∧ Below w4.heap.size w4 w5) := ⟨HB4.out.trans (hb5.mono HB4.out.size), hb5⟩
  have S2 : Hid _ := refScore_any ao m c T w5 (HE.out w5 HB5.out.1) (by have := HMN.out.2; omega)
  rw [HSC.out] at S2
  clear hb5 S1
  go_wp2_with fail
  refine Calls.mono S2.out ?_
  rintro e w6 ⟨rfl, hb6⟩
  have HB6 : Hid (Below w.heap.size w w6 ∧ Below w4.heap.size w4 w6) := ⟨HB5.out.1.trans (hb6.mono HB5.out.1.size), HB5.out.2.trans (hb6.mono HB5.out.2.size)⟩
  clear hb6 S2
  go_wp2_with fail
  refine (K1.out _).mono ?_
  rintro e w7 ⟨rfl, rfl⟩
  go_wp2_with fail
  refine (K2.out _).mono ?_
  rintro e w8 ⟨rfl, rfl⟩
  have HX6 : Hid (IntsV w8 r4 q (pkL T) ∧ IntsV w8 r3 q (pkL T) ∧ TabsV w8 oo m T) := ⟨HI4.out.keep HB6.out.2, HI5.out.keep HB6.out.2, HOV4.out.keep HB6.out.2⟩
  clear K1 K2 HI4 HI5 HOV4 HOV3 HOV
  go_wp2
  go_loopw [13] (fun x wr => ∃ i : Nat, x = .int .i64 i ∧ i ≤ q ∧ Below w8.heap.size w8 wr) (fun x _ => q - (intOf x).toNat)
  case atStart => exact ⟨0, rfl, by omega, Below.refl _ _⟩
  case round =>
    obtain ⟨i, rfl, hiq, hbel⟩ := hrel
    have HBL : Hid _ := hbel
    by_cases hlt : i < q
    · have hltz : (i : Int) < (q : Int) := by omega
      have hi2 : (i : Int) < 201 := by have := HQM.out; omega
      obtain ⟨b, off, hro, hca⟩ := (HX6.out.1.keep hbel).2 (by omega)
      obtain ⟨b2, off2, hro2, hcb⟩ := (HX6.out.2.1.keep hbel).2 (by omega)
      have e1 := hca i hlt
      have e2 := hcb i hlt
      obtain ⟨y, HY⟩ : ∃ y, Hid ((pkL T).getD i 0 = y) := ⟨_, rfl⟩
      rw [HY.out] at e1 e2
      subst hro hro2
      clear hbel hca hcb
      go_wp2_with fail
      go_quiet (fail)
      go_wp2
      go_roundw
      case rel => exact ⟨i + 1, by go_num, by omega, bel_drewN HBL.out nq⟩
      case measure => simp [intOf]; omega
    · have hltz : ¬ (i : Int) < (q : Int) := by omega
      obtain rfl : i = q := by omega
      obtain ⟨wo, hwo⟩ : ∃ W, W = wr := ⟨_, rfl⟩
      subst hwo
      clear hbel
      have hg := guard32
      go_wp2
      go_loopw [14] (fun x wr => ∃ p : Nat, x = .int .i64 p ∧ p ≤ m ∧ Below wo.heap.size wo wr) (fun x _ => m - (intOf x).toNat)
      case atStart => exact ⟨0, rfl, by omega, Below.refl _ _⟩
      case round =>
        obtain ⟨i, rfl, hiq, hbel⟩ := hrel
        have HB2L : Hid (Below w8.heap.size w8 wr) := HBL.out.trans (hbel.mono HBL.out.size)
        have HBN : Hid (Below wo.heap.size wo wr) := hbel
        clear hbel
        by_cases hlt : i < m
        · have hltz : (i : Int) < (m : Int) := by omega
          have hi2 : (i : Int) < 201 := by have := HMN.out.2; omega
          have hB8 : Below w.heap.size w wr := HB6.out.1.trans (HB2L.out.mono HB6.out.1.size)
          have hA := HE.out wr hB8
          have hB := HX6.out.2.2.keep HB2L.out
          obtain ⟨b, off, hao, hEn⟩ := hA.2 (by omega)
          obtain ⟨b2, off2, hbo, hEn2⟩ := hB.2 (by omega)
          obtain ⟨x, HX⟩ : ∃ x, Hid (T.getD i zT = x) := ⟨_, rfl⟩
          have HRR : Hid (wr.drew.rangeAt b2 (off2 + i * 36) (encT x) ∧ wr.drew.rangeAt b (off + i * 36) (encT x)) := ⟨tabs_range hEn2 i (by have := hB.1; omega) HX.out, tabs_range hEn i (by have := hA.1; omega) HX.out⟩
          subst hao hbo
          have heq := fun w => equal32 x x w
          rw [(eqT_iff x x).2 rfl] at heq
          clear hB8 hA hB hEn hEn2
          go_upto_region 16 with fail
          refine wp_region_held_drew (S := fun W => W.rangeAt b2 (off2 + i * 36) (encT x) ∧ W.rangeAt b (off + i * 36) (encT x)) (by kernel_rfl) HRR.out (fun hS => ?_)
          refine wpAnyH_take (i := 0) (v := ?_) rfl (by kernel_rfl) (by kernel_rfl) (by kernel_rfl) (fun _ _ _ h => h) (Or.inl ⟨by rfl, ?_⟩) (by assumption) ?_
          rotate_left
          · (intro w hSw; (try dsimp only at hSw); go_simp; try with_reducible rfl)
          simp only [Act.put, List.getElem_toArray, List.getElem_cons_zero, List.setIfInBounds_toArray, List.set_cons_zero, List.set_cons_succ]
          refine wpAnyH_take (i := 1) (v := ?_) rfl (by kernel_rfl) (by kernel_rfl) (by kernel_rfl) (fun _ _ _ h => h) (Or.inl ⟨by rfl, ?_⟩) (by assumption) ?_
          rotate_left
          · (intro w hSw; (try dsimp only at hSw); go_simp; try with_reducible rfl)
          simp only [Act.put, List.getElem_toArray, List.getElem_cons_zero, List.getElem_cons_succ, List.setIfInBounds_toArray, List.set_cons_zero, List.set_cons_succ]
          refine wpAnyH_take (i := 2) (v := ?_) rfl (by kernel_rfl) (by kernel_rfl) (by kernel_rfl) (fun _ _ _ h => h) (Or.inl ⟨by rfl, ?_⟩) (by assumption) ?_
          rotate_left
          · (intro w hSw; (try dsimp only at hSw); go_simp; try with_reducible rfl)
          simp only [Act.put, List.getElem_toArray, List.getElem_cons_zero, List.getElem_cons_succ, List.setIfInBounds_toArray, List.set_cons_zero, List.set_cons_succ]
          refine wpAnyH_take (i := 3) (v := .agg (encT x).toArray) rfl (by kernel_rfl) (by kernel_rfl) (by kernel_rfl) (fun _ _ _ h => h) (yieldsIf_load_mid (by rfl) 32 (.tmp 88) rfl b2 (off2 + i * 36) rfl (encT x) _ (fun W h => h.1) Try.underlying32 rfl (sizeT x)) (by assumption) ?_
          simp only [Act.put, List.getElem_toArray, List.getElem_cons_zero, List.getElem_cons_succ, List.setIfInBounds_toArray, List.set_cons_zero, List.set_cons_succ]
          refine wpAnyH_take (i := 4) (v := ?_) rfl (by kernel_rfl) (by kernel_rfl) (by kernel_rfl) (fun _ _ _ h => h) (Or.inl ⟨by rfl, ?_⟩) (by assumption) ?_
          rotate_left
          · (intro w hSw; (try dsimp only at hSw); go_simp; try with_reducible rfl)
          simp only [Act.put, List.getElem_toArray, List.getElem_cons_zero, List.getElem_cons_succ, List.setIfInBounds_toArray, List.set_cons_zero, List.set_cons_succ]
          refine wpAnyH_take (i := 5) (v := ?_) rfl (by kernel_rfl) (by kernel_rfl) (by kernel_rfl) (fun _ _ _ h => h) (Or.inl ⟨by rfl, ?_⟩) (by assumption) ?_
          rotate_left
          · (intro w hSw; (try dsimp only at hSw); go_simp; try with_reducible rfl)
          simp only [Act.put, List.getElem_toArray, List.getElem_cons_zero, List.getElem_cons_succ, List.setIfInBounds_toArray, List.set_cons_zero, List.set_cons_succ]
          refine wpAnyH_take (i := 6) (v := ?_) rfl (by kernel_rfl) (by kernel_rfl) (by kernel_rfl) (fun _ _ _ h => h) (Or.inl ⟨by rfl, ?_⟩) (by assumption) ?_
          rotate_left
          · (intro w hSw; (try dsimp only at hSw); go_simp; try with_reducible rfl)
          simp only [Act.put, List.getElem_toArray, List.getElem_cons_zero, List.getElem_cons_succ, List.setIfInBounds_toArray, List.set_cons_zero, List.set_cons_succ]
          refine wpAnyH_take (i := 7) (v := .agg (encT x).toArray) rfl (by kernel_rfl) (by kernel_rfl) (by kernel_rfl) (fun _ _ _ h => h) (yieldsIf_load_mid (by rfl) 32 (.tmp 92) rfl b (off + i * 36) rfl (encT x) _ (fun W h => h.2) Try.underlying32 rfl (sizeT x)) (by assumption) ?_
          simp only [Act.put, List.getElem_toArray, List.getElem_cons_zero, List.getElem_cons_succ, List.setIfInBounds_toArray, List.set_cons_zero, List.set_cons_succ]
          refine wpAnyH_take (i := 8) (v := ?_) rfl (by kernel_rfl) (by kernel_rfl) (by kernel_rfl) (fun _ _ _ h => h) (Or.inl ⟨by rfl, ?_⟩) (by assumption) ?_
          rotate_left
          · (intro w hSw; (try dsimp only at hSw); go_simp; try with_reducible rfl)
          simp only [Act.put, List.getElem_toArray, List.getElem_cons_zero, List.getElem_cons_succ, List.setIfInBounds_toArray, List.set_cons_zero, List.set_cons_succ]
          refine wpAnyH_done (by kernel_rfl) ?_ _
          go_wp2
          go_roundw
          case rel => exact ⟨i + 1, by go_num, by omega, HBN.out.drew⟩
          case measure => simp [intOf]; omega
        · have hltz : ¬ (i : Int) < (m : Int) := by omega
          obtain rfl : i = m := by omega
          have HBE : Hid (Below w.heap.size w wr) := HB6.out.1.trans (HB2L.out.mono HB6.out.1.size)
          go_wp2
          go_ret
          exact ⟨rfl, HBE.out⟩
end Go.Proofs.Ytnkbhojflcckmaa
