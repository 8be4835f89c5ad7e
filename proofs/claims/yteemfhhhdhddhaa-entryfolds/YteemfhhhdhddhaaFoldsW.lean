/-
  A fold of the parts' folds is the fold of all: what the law EntryFolds answers, for any arguments.
-/
import Derived.Test.YteemfhhhdhddhaaFoldsL
namespace Go.Proofs.Yteemfhhhdhddhaa
open Go.RowKit Go.Sort Go.Shelf
set_option linter.unusedSectionVars false
variable [Inhabited E] [DecidableEq E]
set_option maxRecDepth 100000 in
set_option maxHeartbeats 8000000 in
theorem folds_walk (ao : Option Addr) (n c : Nat) (es : List E) (at0 : Int) (w : World) (hE : EntsV w ao n es) (hsm : Small es) (hnc : n ≤ c) (hc : c ≤ 9223372036854775807) :
    Calls Try.prog 6 #[.slice ao n c, .int .i64 at0] w fun e w' => e = .returned (.bool true) ∧ Below w.heap.size w w' := by
  go_enter Try.func6, Try.ntmps6
  go_wp2_with fail
  refine (shown_any w).mono ?_
  rintro e w1 ⟨rfl, hb1⟩
  go_wp2_with fail
  refine (few_any ao n c 60 es w1 (hE.below hb1 (Nat.le_refl _)) hsm (by omega) (by omega)).mono ?_
  rintro e w2 ⟨v2, rfl, hown2, hb2⟩
  have hl2 := fewS_len 200 1100 60 es
  obtain ⟨fs, HF⟩ : ∃ fs, Hid (fewS 200 1100 60 es = fs) := ⟨_, rfl⟩
  rw [HF.out] at hown2 hl2
  have hcap2 : ∀ ao c, .slice ao fs.length c = v2 → fs.length ≤ c := by
    intro ao c hv
    subst hv
    rcases hown2.2 with ⟨h1, h2⟩ | ⟨g, cap, cur, h1, _, _, h3, _⟩
    · injection h1 with h1a h1b h1c; omega
    · injection h1 with h1a h1b h1c; omega
  obtain ⟨ao2, c2, rfl, hE2, h02⟩ := own_entsV0 hown2 rfl
  have hlc := hcap2 _ _ rfl
  have hB2 : Below w.heap.size w w2 := hb1.trans (hb2.mono hb1.size)
  clear hown2 hb1 hb2 hE hsm hcap2
  have h60 : fs.length ≤ 60 := by omega
  clear hl2
  go_wp2_with fail
  refine (fold_any ao2 fs.length c2 fs w2 hE2 (by omega)).mono ?_
  rintro e w3 ⟨v3, rfl, hown3, hb3⟩
  have hl3 := foldS_len fs
  have hk := ks_foldS fs
  obtain ⟨f, HG⟩ : ∃ f, Hid (foldS fs = f) := ⟨_, rfl⟩
  rw [HG.out] at hown3 hl3 hk
  obtain ⟨ao3, c3, rfl, hE3⟩ := own_entsV hown3 rfl
  have hB3 : Below w.heap.size w w3 := hB2.trans (hb3.mono hB2.size)
  have hE2' := hE2.below hb3 (Nat.le_refl _)
  clear hown3 hb3 hB2 hE2
  have hf60 : f.length ≤ 60 := by omega
  clear hl3
  have HK : Hid _ := hk
  have HE2 : Hid (EntsV w3 ao2 fs.length fs) := hE2'
  have HE3 : Hid (EntsV w3 ao3 f.length f) := hE3
  have HB3 : Hid (Below w.heap.size w w3) := hB3
  clear hk hE2' hE3 hB3
  obtain ⟨l, HL⟩ : ∃ l, Hid (fs.length = l) := ⟨_, rfl⟩
  obtain ⟨lf, HLF⟩ : ∃ l, Hid (f.length = l) := ⟨_, rfl⟩
  rw [HL.out] at HE2 hlc h60 ⊢
  rw [HLF.out] at HE3 hf60 ⊢
  go_upto_if 20 with fail
  go_cut [7] (fun s7 wx => ∃ k : Nat, s7 = .int .i64 (k : Int) ∧ k ≤ l ∧ wx = w3)
  case first =>
    by_cases hp : 0 < at0
    · have hz : ((l : Int) + 1 == 0) = false := by simp; omega
      go_wp2
      go_meet
      case rel => exact ⟨at0.toNat % (l + 1), congrArg (Value.int .i64) (rem_nat at0 l hp), by have := Nat.mod_lt at0.toNat (show 0 < l + 1 by omega); omega, rfl⟩
    · go_wp2
      go_meet
      case rel => exact ⟨0, rfl, by omega, rfl⟩
  case rest =>
    obtain ⟨k, rfl, hkl, hwx⟩ := hcut
    have hwx' := hwx.symm
    subst hwx'
    clear hwx
    obtain ⟨aoD, hif⟩ : ∃ a, (if c2 = k then ao2 else Option.map (fun x => x.add (k * 4)) ao2) = a := ⟨_, rfl⟩
    have hED := HE2.out.from k hkl hlc
    rw [hif] at hED
    obtain ⟨A, HA⟩ : ∃ A, Hid (foldS (fs.take k) = A) := ⟨_, rfl⟩
    obtain ⟨B, HBB⟩ : ∃ A, Hid (foldS (fs.drop k) = A) := ⟨_, rfl⟩
    have hlA : A.length ≤ 60 := by rw [← HA.out]; have := foldS_len (fs.take k); rw [List.length_take] at this; omega
    have hlB : B.length ≤ 60 := by rw [← HBB.out]; have := foldS_len (fs.drop k); rw [List.length_drop] at this; have := HL.out; omega
    obtain ⟨lA, HLA⟩ : ∃ l, Hid (A.length = l) := ⟨_, rfl⟩
    obtain ⟨lb, HLb⟩ : ∃ l, Hid (B.length = l) := ⟨_, rfl⟩
    obtain ⟨lB, HLB⟩ : ∃ l, Hid ((A ++ B).length = l) := ⟨_, rfl⟩
    rw [HLA.out] at hlA
    rw [HLb.out] at hlB
    have HA' : Hid (∀ W, Below w3.heap.size w3 W → Calls Try.prog 27 #[.slice ao2 k c2] W fun e w' => ∃ ao c, e = .returned (.slice ao lA c) ∧ EntsV w' ao lA A ∧ (ao = none → c = 0) ∧ Below W.heap.size W w') := by
      show ∀ _, _
      intro W hW
      refine (fold_any ao2 k c2 (fs.take k) W ((HE2.out.take k hkl).below hW (Nat.le_refl _)) (by omega)).mono ?_
      rintro e w' ⟨v', rfl, ho, hb⟩
      rw [HA.out, HLA.out] at ho
      obtain ⟨a, c, rfl, h1, h2⟩ := own_entsV0 ho HLA.out
      exact ⟨a, c, rfl, h1, h2, hb⟩
    have HB' : Hid (∀ W, Below w3.heap.size w3 W → Calls Try.prog 27 #[.slice aoD (l - k) (c2 - k)] W fun e w' => ∃ ao c, e = .returned (.slice ao lb c) ∧ EntsV w' ao lb B ∧ (ao = none → c = 0) ∧ Below W.heap.size W w') := by
      show ∀ _, _
      intro W hW
      refine (fold_any aoD (l - k) (c2 - k) (fs.drop k) W (hED.below hW (Nat.le_refl _)) (by omega)).mono ?_
      rintro e w' ⟨v', rfl, ho, hb⟩
      rw [HBB.out, HLb.out] at ho
      obtain ⟨a, c, rfl, h1, h2⟩ := own_entsV0 ho HLb.out
      exact ⟨a, c, rfl, h1, h2, hb⟩
    have HAB : Hid (foldS (A ++ B) = f) := by
      show _ = _
      rw [← HA.out, ← HBB.out, foldS_parts, List.take_append_drop, HG.out]
    clear hED HA HBB
    have z1 : (k : Int) ≤ (l : Int) := by omega
    have z2 : (k : Int) ≤ (c2 : Int) := by omega
    have z3 : (l : Int) ≤ (c2 : Int) := by omega
    go_upto_region 7 with fail
    go_cut [8] (fun s8 wx => ∃ ao8 c8, s8 = .slice ao8 lB c8 ∧ Hid (EntsV wx ao8 lB (A ++ B)) ∧ Hid (Below w3.heap.size w3 wx))
    case first =>
      refine wp_region_noPanic ?_
      refine wp_region_held_drew (S := fun _ => True) (by kernel_rfl) trivial (fun hHeld => ?_)
      refine wpAnyH_take (i := 1) (v := ?_) rfl (by kernel_rfl) (by kernel_rfl) (by kernel_rfl) (fun _ _ _ h => h) (Or.inl ⟨by rfl, ?_⟩) (by assumption) ?_
      rotate_left
      · (intro w hSw; (try dsimp only at hSw); go_simp; try with_reducible rfl)
      simp only [Act.put, List.getElem_toArray, List.getElem_cons_zero, List.getElem_cons_succ, List.setIfInBounds_toArray, List.set_cons_zero, List.set_cons_succ]
      refine wpAnyH_take (i := 2) (v := ?_) rfl (by kernel_rfl) (by kernel_rfl) (by kernel_rfl) (fun _ _ _ h => h) (Or.inl ⟨by rfl, ?_⟩) (by assumption) ?_
      rotate_left
      · (intro w hSw; (try dsimp only at hSw); go_simp; try with_reducible rfl)
      simp only [Act.put, List.getElem_toArray, List.getElem_cons_zero, List.getElem_cons_succ, List.setIfInBounds_toArray, List.set_cons_zero, List.set_cons_succ]
      refine wpAnyH_take (i := 3) (v := ?_) rfl (by kernel_rfl) (by kernel_rfl) (by kernel_rfl) (fun _ _ _ h => h) (Or.inl ⟨by rfl, ?_⟩) (by assumption) ?_
      rotate_left
      · (intro w hSw; (try dsimp only at hSw); go_simp; try with_reducible rfl)
      simp only [Act.put, List.getElem_toArray, List.getElem_cons_zero, List.getElem_cons_succ, List.setIfInBounds_toArray, List.set_cons_zero, List.set_cons_succ]
      refine wpAnyH_take (i := 6) (v := ?_) rfl (by kernel_rfl) (by kernel_rfl) (by kernel_rfl) (fun _ _ _ h => h) (Or.inl ⟨by rfl, ?_⟩) (by assumption) ?_
      rotate_left
      · (intro w hSw; (try dsimp only at hSw); go_simp; try with_reducible rfl)
      simp only [Act.put, List.getElem_toArray, List.getElem_cons_zero, List.getElem_cons_succ, List.setIfInBounds_toArray, List.set_cons_zero, List.set_cons_succ]
      refine wpAnyH_take (i := 7) (v := ?_) rfl (by kernel_rfl) (by kernel_rfl) (by kernel_rfl) (fun _ _ _ h => h) (Or.inl ⟨by rfl, ?_⟩) (by assumption) ?_
      rotate_left
      · (intro w hSw; (try dsimp only at hSw); go_simp; try with_reducible rfl)
      simp only [Act.put, List.getElem_toArray, List.getElem_cons_zero, List.getElem_cons_succ, List.setIfInBounds_toArray, List.set_cons_zero, List.set_cons_succ]
      refine wpAnyH_take (i := 8) (v := ?_) rfl (by kernel_rfl) (by kernel_rfl) (by kernel_rfl) (fun _ _ _ h => h) (Or.inl ⟨by rfl, ?_⟩) (by assumption) ?_
      rotate_left
      · (intro w hSw; (try dsimp only at hSw); go_simp; try with_reducible rfl)
      simp only [Act.put, List.getElem_toArray, List.getElem_cons_zero, List.getElem_cons_succ, List.setIfInBounds_toArray, List.set_cons_zero, List.set_cons_succ]
      refine wpAnyH_ready (rs := [0, 4]) (by kernel_rfl) (by simp) ?_
      refine AllReadyH.cons rfl (fun K hK => ?_) ?_
      · go_simp
        refine hK.out _ _ trivial (fun hHeld2 => ?_)
        clear hK K
        refine wpAnyH_ready (rs := [4]) (by kernel_rfl) (by simp) ?_
        refine AllReadyH.cons rfl (fun K hK => ?_) ?_
        rotate_left
        · exact AllReadyH.nil
        go_simp
        refine (HA'.out _ (Below.drew (Below.refl _ _) |>.trans (bel_alloc w3.drew _))).mono ?_
        rintro e wA ⟨aoA, cA, rfl, hEA, h0A, hbA⟩
        go_wp2_with fail
        refine hK.out _ _ trivial (fun hHeld2 => ?_)
        clear hK K
        refine wpAnyH_ready (rs := [5]) (by kernel_rfl) (by simp) ?_
        refine AllReadyH.cons rfl (fun K hK => ?_) ?_
        rotate_left
        · exact AllReadyH.nil
        refine step_append_ents _ rfl (.tmp 26) (.tmp 30) rfl w3.heap.size _ 0 [] rfl (own_below (own_emptyE w3.drew) hbA (Nat.le_refl _)) (Nat.le_trans (bel_alloc w3.drew (.cells #[] 23)).size hbA.size) _ _ _ A rfl hEA h0A (by omega) ?_
        intro v5 w5 hown5 hb5
        rw [List.nil_append, HLA.out] at hown5
        have HW5 : Hid (Below w3.heap.size w3 w5) := (((Below.drew (Below.refl _ _)).trans (bel_alloc w3.drew _)).trans (hbA.mono (bel_alloc w3.drew (.cells #[] 23)).size)).trans hb5
        refine hK.out _ _ trivial (fun hHeld2 => ?_)
        clear hK K
        simp only [Act.put, List.getElem_toArray, List.getElem_cons_zero, List.getElem_cons_succ, List.setIfInBounds_toArray, List.set_cons_zero, List.set_cons_succ]
        refine wpAnyH_ready (rs := [9]) (by kernel_rfl) (by simp) ?_
        refine AllReadyH.cons rfl (fun K hK => ?_) ?_
        rotate_left
        · exact AllReadyH.nil
        go_simp
        refine (HB'.out _ HW5.out).mono ?_
        rintro e wB ⟨aoB, cB, rfl, hEB, h0B, hbB⟩
        go_wp2_with fail
        refine hK.out _ _ trivial (fun hHeld2 => ?_)
        clear hK K
        refine wpAnyH_ready (rs := [10]) (by kernel_rfl) (by simp) ?_
        refine AllReadyH.cons rfl (fun K hK => ?_) ?_
        rotate_left
        · exact AllReadyH.nil
        refine step_append_ents _ rfl (.tmp 31) (.tmp 35) rfl w3.heap.size _ lA A rfl (own_below hown5 hbB (Nat.le_refl _)) (Nat.le_trans HW5.out.size hbB.size) _ _ _ B rfl hEB h0B (by omega) ?_
        intro v10 w10 hown10 hb10
        have HW10 : Hid (Below w3.heap.size w3 w10) := (HW5.out.trans (hbB.mono HW5.out.size)).trans hb10
        obtain ⟨ao10, c10, rfl, hE10⟩ := own_entsV hown10 rfl
        rw [HLB.out] at hE10 ⊢
        have HE10 : Hid (EntsV w10 ao10 lB (A ++ B)) := hE10
        clear hown5 hown10 hb5 hb10 hbA hbB hEA hEB hE10
        refine hK.out _ _ trivial (fun hHeld2 => ?_)
        clear hK K
        simp only [Act.put, List.getElem_toArray, List.getElem_cons_zero, List.getElem_cons_succ, List.setIfInBounds_toArray, List.set_cons_zero, List.set_cons_succ]
        refine wpAnyH_take (i := 11) (v := ?_) rfl (by kernel_rfl) (by kernel_rfl) (by kernel_rfl) (fun _ _ _ h => h) (Or.inl ⟨by rfl, ?_⟩) (by assumption) ?_
        rotate_left
        · (intro w hSw; (try dsimp only at hSw); go_simp; try with_reducible rfl)
        simp only [Act.put, List.getElem_toArray, List.getElem_cons_zero, List.getElem_cons_succ, List.setIfInBounds_toArray, List.set_cons_zero, List.set_cons_succ]
        refine wpAnyH_done (by kernel_rfl) ?_ _
        refine NoPanic.normal ?_
        go_wp2
        go_meet
        case rel => exact ⟨_, _, rfl, HE10, HW10⟩
      refine AllReadyH.cons rfl (fun K hK => ?_) AllReadyH.nil
      go_simp
      refine (HA'.out _ (Below.drew (Below.refl _ _))).mono ?_
      rintro e wA ⟨aoA, cA, rfl, hEA, h0A, hbA⟩
      go_wp2_with fail
      refine hK.out _ _ trivial (fun hHeld2 => ?_)
      clear hK K
      refine wpAnyH_ready (rs := [0]) (by kernel_rfl) (by simp) ?_
      refine AllReadyH.cons rfl (fun K hK => ?_) ?_
      rotate_left
      · exact AllReadyH.nil
      go_simp
      refine hK.out _ _ trivial (fun hHeld2 => ?_)
      clear hK K
      refine wpAnyH_ready (rs := [5]) (by kernel_rfl) (by simp) ?_
      refine AllReadyH.cons rfl (fun K hK => ?_) ?_
      rotate_left
      · exact AllReadyH.nil
      refine step_append_ents _ rfl (.tmp 26) (.tmp 30) rfl wA.heap.size _ 0 [] rfl (own_emptyE wA) (by simp) _ _ _ A rfl (hEA.below (bel_alloc wA _) (Nat.le_refl _)) h0A (by omega) ?_
      intro v5 w5 hown5' hb5
      rw [List.nil_append, HLA.out] at hown5'
      have hown5 := ownsRow_mono hown5' (show w3.heap.size ≤ wA.heap.size from hbA.size)
      clear hown5'
      have HW5 : Hid (Below w3.heap.size w3 w5) := (((Below.drew (Below.refl _ _)).trans hbA).trans ((bel_alloc wA _).mono hbA.size)).trans (hb5.mono hbA.size)
      refine hK.out _ _ trivial (fun hHeld2 => ?_)
      clear hK K
      simp only [Act.put, List.getElem_toArray, List.getElem_cons_zero, List.getElem_cons_succ, List.setIfInBounds_toArray, List.set_cons_zero, List.set_cons_succ]
      refine wpAnyH_ready (rs := [9]) (by kernel_rfl) (by simp) ?_
      refine AllReadyH.cons rfl (fun K hK => ?_) ?_
      rotate_left
      · exact AllReadyH.nil
      go_simp
      refine (HB'.out _ HW5.out).mono ?_
      rintro e wB ⟨aoB, cB, rfl, hEB, h0B, hbB⟩
      go_wp2_with fail
      refine hK.out _ _ trivial (fun hHeld2 => ?_)
      clear hK K
      refine wpAnyH_ready (rs := [10]) (by kernel_rfl) (by simp) ?_
      refine AllReadyH.cons rfl (fun K hK => ?_) ?_
      rotate_left
      · exact AllReadyH.nil
      refine step_append_ents _ rfl (.tmp 31) (.tmp 35) rfl w3.heap.size _ lA A rfl (own_below hown5 hbB (Nat.le_refl _)) (Nat.le_trans HW5.out.size hbB.size) _ _ _ B rfl hEB h0B (by omega) ?_
      intro v10 w10 hown10 hb10
      have HW10 : Hid (Below w3.heap.size w3 w10) := (HW5.out.trans (hbB.mono HW5.out.size)).trans hb10
      obtain ⟨ao10, c10, rfl, hE10⟩ := own_entsV hown10 rfl
      rw [HLB.out] at hE10 ⊢
      have HE10 : Hid (EntsV w10 ao10 lB (A ++ B)) := hE10
      clear hown5 hown10 hb5 hb10 hbA hbB hEA hEB hE10
      refine hK.out _ _ trivial (fun hHeld2 => ?_)
      clear hK K
      simp only [Act.put, List.getElem_toArray, List.getElem_cons_zero, List.getElem_cons_succ, List.setIfInBounds_toArray, List.set_cons_zero, List.set_cons_succ]
      refine wpAnyH_take (i := 11) (v := ?_) rfl (by kernel_rfl) (by kernel_rfl) (by kernel_rfl) (fun _ _ _ h => h) (Or.inl ⟨by rfl, ?_⟩) (by assumption) ?_
      rotate_left
      · (intro w hSw; (try dsimp only at hSw); go_simp; try with_reducible rfl)
      simp only [Act.put, List.getElem_toArray, List.getElem_cons_zero, List.getElem_cons_succ, List.setIfInBounds_toArray, List.set_cons_zero, List.set_cons_succ]
      refine wpAnyH_done (by kernel_rfl) ?_ _
      refine NoPanic.normal ?_
      go_wp2
      go_meet
      case rel => exact ⟨_, _, rfl, HE10, HW10⟩
    case rest =>
      obtain ⟨ao8, c8, rfl, HE8, HB8⟩ := hcut
      clear HA' HB' hif z1 z2 z3
      have HIDM : Hid (foldS f = f) := foldS_idem HK.out
      have HF8 : Hid (EntsV wc ao3 lf f) := HE3.out.below HB8.out (Nat.le_refl _)
      have HL8 : Hid (EntsV wc ao2 l fs) := HE2.out.below HB8.out (Nat.le_refl _)
      have HZ8 : Hid (Below w.heap.size w wc) := HB3.out.trans (HB8.out.mono HB3.out.size)
      have hlB2 : lB ≤ 120 := by have := HLB.out; rw [List.length_append, HLA.out, HLb.out] at this; omega
      clear HE2 HE3 HB8 HB3
      go_wp2_with fail
      refine (fold_any ao3 lf c3 f _ HF8.out (by omega)).mono ?_
      rintro e w9 ⟨v9, rfl, hown9, hb9⟩
      rw [HIDM.out, HLF.out] at hown9
      obtain ⟨ao9, c9, rfl, hE9⟩ := own_entsV hown9 HLF.out
      have HB9 : Hid (Below wc.heap.size wc w9) := hb9
      have HS9 : Hid _ := same_any ao9 lf c9 f ao3 lf c3 f w9 hE9 (HF8.out.below hb9 (Nat.le_refl _)) (by omega) (by omega)
      clear hown9 hE9 hb9
      go_wp2_with fail
      refine Calls.mono HS9.out ?_
      rintro e w10 ⟨rfl, hb10⟩
      simp only [decide_true]
      have HB10 : Hid (Below wc.heap.size wc w10) := HB9.out.trans (hb10.mono HB9.out.size)
      clear HB9 HS9 hb10
      have HF10 : Hid _ := fold_any ao8 lB c8 (A ++ B) w10 (HE8.out.below HB10.out (Nat.le_refl _)) (by omega)
      go_wp2_with fail
      refine Calls.mono HF10.out ?_
      rintro e w11 ⟨v11, rfl, hown11, hb11⟩
      rw [HAB.out, HLF.out] at hown11
      obtain ⟨ao11, c11, rfl, hE11⟩ := own_entsV hown11 HLF.out
      have HB11 : Hid (Below wc.heap.size wc w11) := HB10.out.trans (hb11.mono HB10.out.size)
      have HS11 : Hid _ := same_any ao11 lf c11 f ao3 lf c3 f w11 hE11 (HF8.out.below HB11.out (Nat.le_refl _)) (by omega) (by omega)
      clear hown11 hE11 hb11 HF10 HB10 HE8
      go_wp2_with fail
      refine Calls.mono HS11.out ?_
      rintro e w12 ⟨rfl, hb12⟩
      simp only [decide_true]
      have HB12 : Hid (Below wc.heap.size wc w12) := HB11.out.trans (hb12.mono HB11.out.size)
      have HF12 : Hid (EntsV w12 ao3 lf f) := HF8.out.below HB12.out (Nat.le_refl _)
      have HL12 : Hid (EntsV w12 ao2 l fs) := HL8.out.below HB12.out (Nat.le_refl _)
      have HZ12 : Hid (Below w.heap.size w w12) := HZ8.out.trans (HB12.out.mono HZ8.out.size)
      have hsrt : sortedB f = true := sortedB_ks.2 HK.out
      have HSR : Hid _ := hsrt
      clear HB11 HS11 hb12 HF8 HL8 HZ8 HB12 hsrt
      go_wp2
      go_loopw [11, 12, 13] (fun x _ _ wr => ∃ i : Nat, x = .int .i64 i ∧ i ≤ l ∧ Below w12.heap.size w12 wr) (fun x _ _ _ => l - (intOf x).toNat)
      case atStart => exact ⟨0, rfl, by omega, Below.refl _ _⟩
      case round =>
        obtain ⟨i, rfl, hil, hbr⟩ := hrel
        have HFr : Hid (EntsV wr ao3 lf f) := HF12.out.below hbr (Nat.le_refl _)
        have HLr : Hid (EntsV wr ao2 l fs) := HL12.out.below hbr (Nat.le_refl _)
        have HBr : Hid (Below w12.heap.size w12 wr) := hbr
        clear hbr
        by_cases hlt : i < l
        · have hltz : (i : Int) < (l : Int) := by omega
          obtain ⟨b, off, hao, hEn⟩ := HLr.out.2 (by omega)
          obtain ⟨k0, v0, d0, q0, HX⟩ : ∃ k0 v0 d0 q0, Hid (fs[i]! = E.mk k0 v0 d0 q0) := ⟨_, _, _, _, rfl⟩
          have hif' : i < fs.length := by have := HL.out; omega
          obtain ⟨c0, c1, c2', c3'⟩ := ents_four hEn i hif' HX.out
          subst hao
          have hmem : E.mk k0 v0 d0 q0 ∈ fs := by rw [← HX.out, getElem!_pos fs i hif']; exact List.getElem_mem hif'
          obtain ⟨x, hx1, hx2, hx3⟩ := foldS_has hmem
          rw [HG.out] at hx1
          obtain ⟨hx4, hx5, hx6⟩ := ks_index HK.out hx1
          simp only at hx2 hx3
          rw [hx2] at hx4 hx5 hx6
          have HFI : Hid _ := find_any ao3 lf c3 f k0 wr HFr.out (by omega)
          rw [hx6] at HFI
          obtain ⟨m, HM⟩ : ∃ m, Hid (belowN k0 f = m) := ⟨_, rfl⟩
          rw [HM.out] at HFI hx4 hx5
          rw [HLF.out] at hx4
          clear hEn hx1 hx6
          obtain ⟨k1, v1, d1, q1⟩ := x
          simp only at hx2 hx3
          subst hx2
          have HX5 : Hid _ := hx5
          clear hx5
          go_wp2_with fail
          refine Calls.mono HFI.out ?_
          rintro e w13 ⟨rfl, hb13⟩
          have HB13 : Hid (Below w12.heap.size w12 w13) := HBr.out.trans (hb13.mono HBr.out.size)
          obtain ⟨b3, off3, hao3, hEn3⟩ := (HFr.out.below hb13 (Nat.le_refl _)).2 (by omega)
          obtain ⟨e0, e1, e2, e3⟩ := ents_four hEn3 m (by rw [HLF.out]; omega) HX5.out
          subst hao3
          have g0 := bel_cell hb13 (Nat.le_refl _) c0
          have g3 := bel_cell hb13 (Nat.le_refl _) c3'
          have hmz : ¬ (lf : Int) ≤ (m : Int) := by omega
          have hmz' : (m : Int) < (lf : Int) := by omega
          have hqz : ¬ q1 < q0 := by omega
          have dq : decide (q1 < q0) = false := decide_eq_false hqz
          have dm : decide ((lf : Int) ≤ (m : Int)) = false := decide_eq_false hmz
          have dm' : decide (lf ≤ m) = false := decide_eq_false (by omega)
          have dk : (k1.toList == k1.toList) = true := by simp
          clear hb13 hEn3 c0 c1 c2' c3' HFI
          go_wp2_with fail
          go_quiet (fail)
          have HB14 : Hid (Below w12.heap.size w12 (w13.drewN nq)) := bel_drewN HB13.out nq
          go_wp2
          go_roundw
          case rel => exact ⟨i + 1, by go_num, by omega, HB14.out⟩
          case measure => simp [intOf]; omega
        · have hltz : ¬ (i : Int) < (l : Int) := by omega
          have HSO : Hid _ := sorted_any ao3 lf c3 f wr HFr.out (by omega)
          rw [HSR.out] at HSO
          go_wp2_with fail
          refine Calls.mono HSO.out ?_
          rintro e w15 ⟨rfl, hb15⟩
          have HB15 : Hid (Below w12.heap.size w12 w15) := HBr.out.trans (hb15.mono HBr.out.size)
          clear hb15
          go_wp2
          go_ret
          exact ⟨rfl, HZ12.out.trans (HB15.out.mono HZ12.out.size)⟩
end Go.Proofs.Yteemfhhhdhddhaa
