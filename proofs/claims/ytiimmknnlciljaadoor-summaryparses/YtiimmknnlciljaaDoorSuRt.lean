/-
  What Right of a summary answers: a contract over this translation.
-/
import Derived.Test.YtiimmknnlciljaaDoorSuF
import Derived.Test.YtiimmknnlciljaaDoorSuR
namespace Go.Proofs.YtiimmknnlciljaaDoor
open Go.RowKit Go.Sort Go.Shelf
set_option linter.unusedSectionVars false
variable [Inhabited E] [DecidableEq E]
theorem right_step {l : List Tb} {i : Nat} (h : ∀ j, j < i → okT l j) (hi : okT l i) : ∀ j, j < i + 1 → okT l j := fun j hj => by
  by_cases e : j = i
  · rw [e]; exact hi
  · exact h j (by omega)
theorem rightTB_yes {l : List Tb} (h1 : l.length ≤ 512) (h2 : ∀ j, j < l.length → okT l j) : rightTB l = true := rightTB_iff.2 ⟨h1, h2⟩
theorem rightTB_no {l : List Tb} (h : ¬ rightT l) : rightTB l = false := by
  cases h1 : rightTB l with
  | false => rfl
  | true => exact absurd (rightTB_iff.1 h1) h
theorem oneB_T {x : Tb} {b : Bool} (h : oneCB x.lv x.ct x.first x.last = b) : oneT x ↔ b = true := by
  rw [← h, ← oneTB_C]; exact oneTB_iff.symm
theorem nextB_T {a x : Tb} {b : Bool} (h : nextCB a.lv a.last x.lv x.first = b) : nextT a x ↔ b = true := by
  rw [← h, ← nextTB_C]; exact nextTB_iff.symm
set_option maxRecDepth 100000 in
set_option maxHeartbeats 8000000 in
theorem right14_any (ao : Option Addr) (n c : Nat) (ts : List Tb) (w : World) (hE : TabsV w ao n ts) (hsm : SmallT ts) (hbig : n ≤ 9223372036854775807) :
    Calls Tryd.prog 18 #[.slice ao n c] w fun e w' => e = .returned (.bool (rightTB ts)) ∧ Below w.heap.size w w' := by
  have HE : Hid _ := hE
  have HSM : Hid (SmallT ts) := hsm
  obtain ⟨r, HR⟩ : ∃ r, Hid (rightTB ts = r) := ⟨_, rfl⟩
  rw [HR.out]
  have HF : Hid (¬ rightT ts → r = false) := fun h => by rw [← HR.out]; exact rightTB_no h
  have HT : Hid (rightT ts → r = true) := fun h => by rw [← HR.out]; exact rightTB_iff.2 h
  clear hE hsm HR
  go_enter Tryd.func18, Tryd.ntmps18
  by_cases h512 : (512 : Int) < (n : Int)
  · obtain rfl := HF.out (fun h => by have := h.1; rw [HE.out.1] at this; omega)
    go_wp2
    go_ret
    exact ⟨rfl, Below.refl _ _⟩
  have hn5 : n ≤ 512 := by omega
  go_wp2
  go_loopw [3, 4, 10] (fun _ _ x wr => ∃ i : Nat, x = .int .i64 i ∧ i ≤ n ∧ Hid (∀ j, j < i → okT ts j) ∧ Below w.heap.size w wr) (fun _ _ x _ => n - (intOf x).toNat)
  case atStart => exact ⟨0, rfl, by omega, (fun j hj => absurd hj (by omega)), Below.refl _ _⟩
  case round =>
    obtain ⟨i, rfl, hin, HS, hbel⟩ := hrel
    by_cases hlt : i < n
    · have hltz : (i : Int) < (n : Int) := by omega
      obtain ⟨b, off, hao, hEn⟩ := HE.out.2 (by omega)
      have hln := HE.out.1
      obtain ⟨x, HX⟩ : ∃ x, Hid (ts.getD i zT = x) := ⟨_, rfl⟩
      have hTr := hEn.below hbel (Nat.le_refl _)
      have HRX : Hid (wr.rangeAt b (off + i * 36) (encT x)) := tabs_range hTr i (by omega) HX.out
      obtain ⟨s0, s1⟩ := smallT_at HSM.out i (by omega) HX.out
      subst hao
      have HTR : Hid (Tabs wr b off ts) := hTr
      have HLN : Hid (ts.length = n) := hln
      have HBE : Hid (Below w.heap.size w wr) := hbel
      have HP0 : Hid (∀ W, Calls Tryd.prog 37 #[.agg (encT x).toArray] W fun e w' => e = .returned (.bool (oneCB x.lv x.ct x.first x.last)) ∧ Below W.heap.size W w') := fun W => possible_any _ _ _ _ _ W (by simpa using encT_0 x) (by simpa using encT_1 x) (by simpa using encT_34 x) (by simpa using encT_35 x) s0 s1
      obtain ⟨g, HG⟩ : ∃ g, Hid (wr.heap.size = g) := ⟨_, rfl⟩
      clear hEn hTr hln hbel s0 s1
      go_wp2_with (first | (refine wpList_load_mid rfl 51 (.tmp 13) rfl b (off + i * 36) rfl (encT x) _ HRX.out Tryd.underlying51 rfl (sizeT x) ?_) | (refine wpList_store_box _ rfl (.tmp 4) (.tmp 14) rfl wr.heap.size rfl x rfl _ (heap_alloc_new wr _) rfl ?_))
      intro w1 hbox hchg
      have HB1 : Hid (Below wr.heap.size wr w1) := (bel_alloc wr _).trans (hchg.below (Nat.le_refl _) (by simp))
      have HBW : Hid (Below w.heap.size w w1) := HBE.out.trans (HB1.out.mono HBE.out.size)
      have HBX : Hid (Box w1 wr.heap.size x) := hbox
      clear hbox hchg
      rw [HG.out] at HBX ⊢
      have HS1 : Hid (∀ W, Below w1.heap.size w1 W → W.rangeAt g 0 (encT x)) := fun W hW j v hv => by rw [Nat.zero_add]; exact (HBX.out.keep hW).at_ hv
      go_upto_region 6 with fail
      obtain ⟨k1, HK1⟩ : ∃ k, Hid (oneCB x.lv x.ct x.first x.last = k) := ⟨_, rfl⟩
      have HP : Hid (∀ W, Below w1.heap.size w1 W → Calls Tryd.prog 37 #[.agg (encT x).toArray] W fun e w' => e = .returned (.bool k1) ∧ Below W.heap.size W w') := fun W _ => by rw [← HK1.out]; exact HP0.out W
      have HO : Hid (oneT x ↔ k1 = true) := oneB_T HK1.out
      clear HP0 HK1
      cases k1 with
      | false =>
        have hr : r = false := HF.out (fun h => by have h5 := (h.2 i (by rw [HLN.out]; exact hlt)).1; rw [HX.out] at h5; exact absurd (HO.out.1 h5) (by decide))
        subst hr
        refine wp_region_held_drew (S := fun W => W.rangeAt g 0 (encT x)) (by kernel_rfl) (HS1.out _ (Below.drew (Below.refl _ w1))) (fun hS => ?_)
        refine wpAnyH_take (i := 0) (v := .agg (encT x).toArray) rfl (by kernel_rfl) (by kernel_rfl) (by kernel_rfl) (fun _ _ _ h => h) (yieldsIf_load_mid (by rfl) 51 (.tmp 4) rfl g (0) rfl (encT x) _ (fun W h => h) Tryd.underlying51 rfl (sizeT x)) (by assumption) ?_
        simp only [Act.put, List.getElem_toArray, List.getElem_cons_zero, List.setIfInBounds_toArray, List.set_cons_zero, List.set_cons_succ]
        refine wpAnyH_ready (rs := [1]) (by kernel_rfl) (by simp) ?_
        refine AllReadyH.cons rfl (fun K hK => ?_) AllReadyH.nil
        go_simp
        refine (HP.out _ (Below.drew (Below.refl w1.heap.size w1))).mono ?_
        rintro e y1 ⟨rfl, hy1⟩
        have HC1 : Hid (Below w1.heap.size w1 y1) := (Below.drew (Below.refl w1.heap.size w1)).trans (hy1.mono (Nat.le_refl _))
        clear hy1
        try unfold dv
        go_wp2_with fail
        refine hK.out _ _ (HS1.out _ HC1.out) (fun hHeld2 => ?_)
        clear hK K
        refine wpAnyH_take (i := 2) (v := ?_) rfl (by kernel_rfl) (by kernel_rfl) (by kernel_rfl) (fun _ _ _ h => h) (Or.inl ⟨by rfl, ?_⟩) (by assumption) ?_
        rotate_left
        · (intro w hSw; (try dsimp only at hSw); go_simp; try with_reducible rfl)
        simp only [Act.put, List.getElem_toArray, List.getElem_cons_zero, List.getElem_cons_succ, List.setIfInBounds_toArray, List.set_cons_zero, List.set_cons_succ]
        refine wpAnyH_take (i := 3) (v := ?_) rfl (by kernel_rfl) (by kernel_rfl) (by kernel_rfl) (fun _ _ _ h => h) (Or.inl ⟨by rfl, ?_⟩) (by assumption) ?_
        rotate_left
        · (intro w hSw; (try dsimp only at hSw); go_simp; try with_reducible rfl)
        simp only [Act.put, List.getElem_toArray, List.getElem_cons_zero, List.getElem_cons_succ, List.setIfInBounds_toArray, List.set_cons_zero, List.set_cons_succ]
        refine wpAnyH_take (i := 4) (v := undef) rfl (by kernel_rfl) (by kernel_rfl) (by kernel_rfl) (fun _ _ _ h => h) (Or.inr ⟨by rfl, rfl⟩) (by assumption) ?_
        simp only [Act.put, List.getElem_toArray, List.getElem_cons_zero, List.getElem_cons_succ, List.setIfInBounds_toArray, List.set_cons_zero, List.set_cons_succ]
        refine wpAnyH_take (i := 5) (v := undef) rfl (by kernel_rfl) (by kernel_rfl) (by kernel_rfl) (fun _ _ _ h => h) (Or.inr ⟨by rfl, rfl⟩) (by assumption) ?_
        simp only [Act.put, List.getElem_toArray, List.getElem_cons_zero, List.getElem_cons_succ, List.setIfInBounds_toArray, List.set_cons_zero, List.set_cons_succ]
        refine wpAnyH_take (i := 6) (v := undef) rfl (by kernel_rfl) (by kernel_rfl) (by kernel_rfl) (fun _ _ _ h => h) (Or.inr ⟨by rfl, rfl⟩) (by assumption) ?_
        simp only [Act.put, List.getElem_toArray, List.getElem_cons_zero, List.getElem_cons_succ, List.setIfInBounds_toArray, List.set_cons_zero, List.set_cons_succ]
        refine wpAnyH_take (i := 7) (v := undef) rfl (by kernel_rfl) (by kernel_rfl) (by kernel_rfl) (fun _ _ _ h => h) (Or.inr ⟨by rfl, rfl⟩) (by assumption) ?_
        simp only [Act.put, List.getElem_toArray, List.getElem_cons_zero, List.getElem_cons_succ, List.setIfInBounds_toArray, List.set_cons_zero, List.set_cons_succ]
        refine wpAnyH_take (i := 8) (v := undef) rfl (by kernel_rfl) (by kernel_rfl) (by kernel_rfl) (fun _ _ _ h => h) (Or.inr ⟨by rfl, rfl⟩) (by assumption) ?_
        simp only [Act.put, List.getElem_toArray, List.getElem_cons_zero, List.getElem_cons_succ, List.setIfInBounds_toArray, List.set_cons_zero, List.set_cons_succ]
        refine wpAnyH_take (i := 9) (v := undef) rfl (by kernel_rfl) (by kernel_rfl) (by kernel_rfl) (fun _ _ _ h => h) (Or.inr ⟨by rfl, rfl⟩) (by assumption) ?_
        simp only [Act.put, List.getElem_toArray, List.getElem_cons_zero, List.getElem_cons_succ, List.setIfInBounds_toArray, List.set_cons_zero, List.set_cons_succ]
        refine wpAnyH_take (i := 10) (v := undef) rfl (by kernel_rfl) (by kernel_rfl) (by kernel_rfl) (fun _ _ _ h => h) (Or.inr ⟨by rfl, rfl⟩) (by assumption) ?_
        simp only [Act.put, List.getElem_toArray, List.getElem_cons_zero, List.getElem_cons_succ, List.setIfInBounds_toArray, List.set_cons_zero, List.set_cons_succ]
        refine wpAnyH_take (i := 11) (v := undef) rfl (by kernel_rfl) (by kernel_rfl) (by kernel_rfl) (fun _ _ _ h => h) (Or.inr ⟨by rfl, rfl⟩) (by assumption) ?_
        simp only [Act.put, List.getElem_toArray, List.getElem_cons_zero, List.getElem_cons_succ, List.setIfInBounds_toArray, List.set_cons_zero, List.set_cons_succ]
        refine wpAnyH_take (i := 12) (v := undef) rfl (by kernel_rfl) (by kernel_rfl) (by kernel_rfl) (fun _ _ _ h => h) (Or.inr ⟨by rfl, rfl⟩) (by assumption) ?_
        simp only [Act.put, List.getElem_toArray, List.getElem_cons_zero, List.getElem_cons_succ, List.setIfInBounds_toArray, List.set_cons_zero, List.set_cons_succ]
        refine wpAnyH_take (i := 13) (v := undef) rfl (by kernel_rfl) (by kernel_rfl) (by kernel_rfl) (fun _ _ _ h => h) (Or.inr ⟨by rfl, rfl⟩) (by assumption) ?_
        simp only [Act.put, List.getElem_toArray, List.getElem_cons_zero, List.getElem_cons_succ, List.setIfInBounds_toArray, List.set_cons_zero, List.set_cons_succ]
        refine wpAnyH_take (i := 14) (v := undef) rfl (by kernel_rfl) (by kernel_rfl) (by kernel_rfl) (fun _ _ _ h => h) (Or.inr ⟨by rfl, rfl⟩) (by assumption) ?_
        simp only [Act.put, List.getElem_toArray, List.getElem_cons_zero, List.getElem_cons_succ, List.setIfInBounds_toArray, List.set_cons_zero, List.set_cons_succ]
        refine wpAnyH_take (i := 15) (v := undef) rfl (by kernel_rfl) (by kernel_rfl) (by kernel_rfl) (fun _ _ _ h => h) (Or.inr ⟨by rfl, rfl⟩) (by assumption) ?_
        simp only [Act.put, List.getElem_toArray, List.getElem_cons_zero, List.getElem_cons_succ, List.setIfInBounds_toArray, List.set_cons_zero, List.set_cons_succ]
        refine wpAnyH_take (i := 16) (v := ?_) rfl (by kernel_rfl) (by kernel_rfl) (by kernel_rfl) (fun _ _ _ h => h) (Or.inl ⟨by rfl, ?_⟩) (by assumption) ?_
        rotate_left
        · (intro w hSw; (try dsimp only at hSw); go_simp; try with_reducible rfl)
        simp only [Act.put, List.getElem_toArray, List.getElem_cons_zero, List.getElem_cons_succ, List.setIfInBounds_toArray, List.set_cons_zero, List.set_cons_succ]
        refine wpAnyH_done (by kernel_rfl) ?_ _
        go_wp2
        go_ret
        exact ⟨rfl, HBW.out.trans (HC1.out.mono HBW.out.size)⟩
      | true =>
        by_cases hi0 : i = 0
        · subst hi0
          refine wp_region_held_drew (S := fun W => W.rangeAt g 0 (encT x)) (by kernel_rfl) (HS1.out _ (Below.drew (Below.refl _ w1))) (fun hS => ?_)
          refine wpAnyH_take (i := 0) (v := .agg (encT x).toArray) rfl (by kernel_rfl) (by kernel_rfl) (by kernel_rfl) (fun _ _ _ h => h) (yieldsIf_load_mid (by rfl) 51 (.tmp 4) rfl g (0) rfl (encT x) _ (fun W h => h) Tryd.underlying51 rfl (sizeT x)) (by assumption) ?_
          simp only [Act.put, List.getElem_toArray, List.getElem_cons_zero, List.setIfInBounds_toArray, List.set_cons_zero, List.set_cons_succ]
          refine wpAnyH_ready (rs := [1]) (by kernel_rfl) (by simp) ?_
          refine AllReadyH.cons rfl (fun K hK => ?_) AllReadyH.nil
          go_simp
          refine (HP.out _ (Below.drew (Below.refl w1.heap.size w1))).mono ?_
          rintro e y1 ⟨rfl, hy1⟩
          have HC1 : Hid (Below w1.heap.size w1 y1) := (Below.drew (Below.refl w1.heap.size w1)).trans (hy1.mono (Nat.le_refl _))
          clear hy1
          try unfold dv
          go_wp2_with fail
          refine hK.out _ _ (HS1.out _ HC1.out) (fun hHeld2 => ?_)
          clear hK K
          refine wpAnyH_take (i := 2) (v := ?_) rfl (by kernel_rfl) (by kernel_rfl) (by kernel_rfl) (fun _ _ _ h => h) (Or.inl ⟨by rfl, ?_⟩) (by assumption) ?_
          rotate_left
          · (intro w hSw; (try dsimp only at hSw); go_simp; try with_reducible rfl)
          simp only [Act.put, List.getElem_toArray, List.getElem_cons_zero, List.getElem_cons_succ, List.setIfInBounds_toArray, List.set_cons_zero, List.set_cons_succ]
          refine wpAnyH_take (i := 3) (v := ?_) rfl (by kernel_rfl) (by kernel_rfl) (by kernel_rfl) (fun _ _ _ h => h) (Or.inl ⟨by rfl, ?_⟩) (by assumption) ?_
          rotate_left
          · (intro w hSw; (try dsimp only at hSw); go_simp; try with_reducible rfl)
          simp only [Act.put, List.getElem_toArray, List.getElem_cons_zero, List.getElem_cons_succ, List.setIfInBounds_toArray, List.set_cons_zero, List.set_cons_succ]
          refine wpAnyH_take (i := 4) (v := ?_) rfl (by kernel_rfl) (by kernel_rfl) (by kernel_rfl) (fun _ _ _ h => h) (Or.inl ⟨by rfl, ?_⟩) (by assumption) ?_
          rotate_left
          · (intro w hSw; (try dsimp only at hSw); go_simp; try with_reducible rfl)
          simp only [Act.put, List.getElem_toArray, List.getElem_cons_zero, List.getElem_cons_succ, List.setIfInBounds_toArray, List.set_cons_zero, List.set_cons_succ]
          refine wpAnyH_take (i := 5) (v := ?_) rfl (by kernel_rfl) (by kernel_rfl) (by kernel_rfl) (fun _ _ _ h => h) (Or.inl ⟨by rfl, ?_⟩) (by assumption) ?_
          rotate_left
          · (intro w hSw; (try dsimp only at hSw); go_simp; try with_reducible rfl)
          simp only [Act.put, List.getElem_toArray, List.getElem_cons_zero, List.getElem_cons_succ, List.setIfInBounds_toArray, List.set_cons_zero, List.set_cons_succ]
          refine wpAnyH_take (i := 6) (v := ?_) rfl (by kernel_rfl) (by kernel_rfl) (by kernel_rfl) (fun _ _ _ h => h) (Or.inl ⟨by rfl, ?_⟩) (by assumption) ?_
          rotate_left
          · (intro w hSw; (try dsimp only at hSw); go_simp; try with_reducible rfl)
          simp only [Act.put, List.getElem_toArray, List.getElem_cons_zero, List.getElem_cons_succ, List.setIfInBounds_toArray, List.set_cons_zero, List.set_cons_succ]
          refine wpAnyH_take (i := 7) (v := undef) rfl (by kernel_rfl) (by kernel_rfl) (by kernel_rfl) (fun _ _ _ h => h) (Or.inr ⟨by rfl, rfl⟩) (by assumption) ?_
          simp only [Act.put, List.getElem_toArray, List.getElem_cons_zero, List.getElem_cons_succ, List.setIfInBounds_toArray, List.set_cons_zero, List.set_cons_succ]
          refine wpAnyH_take (i := 8) (v := undef) rfl (by kernel_rfl) (by kernel_rfl) (by kernel_rfl) (fun _ _ _ h => h) (Or.inr ⟨by rfl, rfl⟩) (by assumption) ?_
          simp only [Act.put, List.getElem_toArray, List.getElem_cons_zero, List.getElem_cons_succ, List.setIfInBounds_toArray, List.set_cons_zero, List.set_cons_succ]
          refine wpAnyH_take (i := 9) (v := undef) rfl (by kernel_rfl) (by kernel_rfl) (by kernel_rfl) (fun _ _ _ h => h) (Or.inr ⟨by rfl, rfl⟩) (by assumption) ?_
          simp only [Act.put, List.getElem_toArray, List.getElem_cons_zero, List.getElem_cons_succ, List.setIfInBounds_toArray, List.set_cons_zero, List.set_cons_succ]
          refine wpAnyH_take (i := 10) (v := undef) rfl (by kernel_rfl) (by kernel_rfl) (by kernel_rfl) (fun _ _ _ h => h) (Or.inr ⟨by rfl, rfl⟩) (by assumption) ?_
          simp only [Act.put, List.getElem_toArray, List.getElem_cons_zero, List.getElem_cons_succ, List.setIfInBounds_toArray, List.set_cons_zero, List.set_cons_succ]
          refine wpAnyH_take (i := 11) (v := undef) rfl (by kernel_rfl) (by kernel_rfl) (by kernel_rfl) (fun _ _ _ h => h) (Or.inr ⟨by rfl, rfl⟩) (by assumption) ?_
          simp only [Act.put, List.getElem_toArray, List.getElem_cons_zero, List.getElem_cons_succ, List.setIfInBounds_toArray, List.set_cons_zero, List.set_cons_succ]
          refine wpAnyH_take (i := 12) (v := undef) rfl (by kernel_rfl) (by kernel_rfl) (by kernel_rfl) (fun _ _ _ h => h) (Or.inr ⟨by rfl, rfl⟩) (by assumption) ?_
          simp only [Act.put, List.getElem_toArray, List.getElem_cons_zero, List.getElem_cons_succ, List.setIfInBounds_toArray, List.set_cons_zero, List.set_cons_succ]
          refine wpAnyH_take (i := 13) (v := undef) rfl (by kernel_rfl) (by kernel_rfl) (by kernel_rfl) (fun _ _ _ h => h) (Or.inr ⟨by rfl, rfl⟩) (by assumption) ?_
          simp only [Act.put, List.getElem_toArray, List.getElem_cons_zero, List.getElem_cons_succ, List.setIfInBounds_toArray, List.set_cons_zero, List.set_cons_succ]
          refine wpAnyH_take (i := 14) (v := undef) rfl (by kernel_rfl) (by kernel_rfl) (by kernel_rfl) (fun _ _ _ h => h) (Or.inr ⟨by rfl, rfl⟩) (by assumption) ?_
          simp only [Act.put, List.getElem_toArray, List.getElem_cons_zero, List.getElem_cons_succ, List.setIfInBounds_toArray, List.set_cons_zero, List.set_cons_succ]
          refine wpAnyH_take (i := 15) (v := ?_) rfl (by kernel_rfl) (by kernel_rfl) (by kernel_rfl) (fun _ _ _ h => h) (Or.inl ⟨by rfl, ?_⟩) (by assumption) ?_
          rotate_left
          · (intro w hSw; (try dsimp only at hSw); go_simp; try with_reducible rfl)
          simp only [Act.put, List.getElem_toArray, List.getElem_cons_zero, List.getElem_cons_succ, List.setIfInBounds_toArray, List.set_cons_zero, List.set_cons_succ]
          refine wpAnyH_take (i := 16) (v := ?_) rfl (by kernel_rfl) (by kernel_rfl) (by kernel_rfl) (fun _ _ _ h => h) (Or.inl ⟨by rfl, ?_⟩) (by assumption) ?_
          rotate_left
          · (intro w hSw; (try dsimp only at hSw); go_simp; try with_reducible rfl)
          simp only [Act.put, List.getElem_toArray, List.getElem_cons_zero, List.getElem_cons_succ, List.setIfInBounds_toArray, List.set_cons_zero, List.set_cons_succ]
          refine wpAnyH_done (by kernel_rfl) ?_ _
          go_wp2
          go_roundw
          case rel => exact ⟨1, by go_num, by omega, right_step HS.out ⟨by rw [HX.out]; exact HO.out.2 (by simp), fun h => absurd h (by omega)⟩, HBW.out.trans (HC1.out.mono HBW.out.size)⟩
          case measure => simp [intOf]; omega
        · obtain ⟨m, rfl⟩ : ∃ m, i = m + 1 := ⟨i - 1, by omega⟩
          obtain ⟨y, HY⟩ : ∃ y, Hid (ts.getD m zT = y) := ⟨_, rfl⟩
          have HS2 : Hid (∀ W, Below w1.heap.size w1 W → W.rangeAt g 0 (encT x) ∧ W.rangeAt b (off + m * 36) (encT y)) := fun W hW => ⟨HS1.out W hW, tabs_range ((HTR.out.below HB1.out (Nat.le_refl _)).below hW (Nat.le_refl _)) m (by rw [HLN.out]; omega) HY.out⟩
          obtain ⟨k2, HK2⟩ : ∃ k, Hid (nextCB y.lv y.last x.lv x.first = k) := ⟨_, rfl⟩
          have HM : Hid (∀ W, Below w1.heap.size w1 W → Calls Tryd.prog 38 #[.agg (encT y).toArray, .agg (encT x).toArray] W fun e w' => e = .returned (.bool k2) ∧ Below W.heap.size W w') := fun W _ => by rw [← HK2.out]; exact mayFollow_any _ _ _ _ _ _ W (by simpa using encT_0 y) (by simpa using encT_35 y) (by simpa using encT_0 x) (by simpa using encT_34 x)
          have HO2 : Hid (nextT y x ↔ k2 = true) := nextB_T HK2.out
          have hm1 : (m : Int) + 1 - 1 = (m : Int) := by omega
          have hm2 : (m : Int) < (n : Int) := by omega
          have hm3 : (0 : Int) < (m : Int) + 1 := by omega
          have hm0 : (0 : Int) ≤ (m : Int) := by omega
          have hwm : IntKind.i64.wrap (m : Int) = (m : Int) := by rw [IntKind.wrap_i64]; omega
          clear HK2
          refine wp_region_held_drew (S := fun W => W.rangeAt g 0 (encT x) ∧ W.rangeAt b (off + m * 36) (encT y)) (by kernel_rfl) (HS2.out _ (Below.drew (Below.refl _ w1))) (fun hS => ?_)
          refine wpAnyH_take (i := 0) (v := .agg (encT x).toArray) rfl (by kernel_rfl) (by kernel_rfl) (by kernel_rfl) (fun _ _ _ h => h) (yieldsIf_load_mid (by rfl) 51 (.tmp 4) rfl g (0) rfl (encT x) _ (fun W h => h.1) Tryd.underlying51 rfl (sizeT x)) (by assumption) ?_
          simp only [Act.put, List.getElem_toArray, List.getElem_cons_zero, List.setIfInBounds_toArray, List.set_cons_zero, List.set_cons_succ]
          refine wpAnyH_ready (rs := [1]) (by kernel_rfl) (by simp) ?_
          refine AllReadyH.cons rfl (fun K hK => ?_) AllReadyH.nil
          go_simp
          refine (HP.out _ (Below.drew (Below.refl w1.heap.size w1))).mono ?_
          rintro e y1 ⟨rfl, hy1⟩
          have HC1 : Hid (Below w1.heap.size w1 y1) := (Below.drew (Below.refl w1.heap.size w1)).trans (hy1.mono (Nat.le_refl _))
          clear hy1
          try unfold dv
          go_wp2_with fail
          refine hK.out _ _ (HS2.out _ HC1.out) (fun hHeld2 => ?_)
          clear hK K
          refine wpAnyH_take (i := 2) (v := ?_) rfl (by kernel_rfl) (by kernel_rfl) (by kernel_rfl) (fun _ _ _ h => h) (Or.inl ⟨by rfl, ?_⟩) (by assumption) ?_
          rotate_left
          · (intro w hSw; (try dsimp only at hSw); go_simp; try with_reducible rfl)
          simp only [Act.put, List.getElem_toArray, List.getElem_cons_zero, List.getElem_cons_succ, List.setIfInBounds_toArray, List.set_cons_zero, List.set_cons_succ]
          refine wpAnyH_take (i := 3) (v := ?_) rfl (by kernel_rfl) (by kernel_rfl) (by kernel_rfl) (fun _ _ _ h => h) (Or.inl ⟨by rfl, ?_⟩) (by assumption) ?_
          rotate_left
          · (intro w hSw; (try dsimp only at hSw); go_simp; try with_reducible rfl)
          simp only [Act.put, List.getElem_toArray, List.getElem_cons_zero, List.getElem_cons_succ, List.setIfInBounds_toArray, List.set_cons_zero, List.set_cons_succ]
          refine wpAnyH_take (i := 4) (v := ?_) rfl (by kernel_rfl) (by kernel_rfl) (by kernel_rfl) (fun _ _ _ h => h) (Or.inl ⟨by rfl, ?_⟩) (by assumption) ?_
          rotate_left
          · (intro w hSw; (try dsimp only at hSw); go_simp; try with_reducible rfl)
          simp only [Act.put, List.getElem_toArray, List.getElem_cons_zero, List.getElem_cons_succ, List.setIfInBounds_toArray, List.set_cons_zero, List.set_cons_succ]
          refine wpAnyH_take (i := 5) (v := ?_) rfl (by kernel_rfl) (by kernel_rfl) (by kernel_rfl) (fun _ _ _ h => h) (Or.inl ⟨by rfl, ?_⟩) (by assumption) ?_
          rotate_left
          · (intro w hSw; (try dsimp only at hSw); go_simp; try with_reducible rfl)
          simp only [Act.put, List.getElem_toArray, List.getElem_cons_zero, List.getElem_cons_succ, List.setIfInBounds_toArray, List.set_cons_zero, List.set_cons_succ]
          refine wpAnyH_take (i := 6) (v := ?_) rfl (by kernel_rfl) (by kernel_rfl) (by kernel_rfl) (fun _ _ _ h => h) (Or.inl ⟨by rfl, ?_⟩) (by assumption) ?_
          rotate_left
          · (intro w hSw; (try dsimp only at hSw); go_simp; try with_reducible rfl)
          simp only [Act.put, List.getElem_toArray, List.getElem_cons_zero, List.getElem_cons_succ, List.setIfInBounds_toArray, List.set_cons_zero, List.set_cons_succ]
          refine wpAnyH_take (i := 7) (v := ?_) rfl (by kernel_rfl) (by kernel_rfl) (by kernel_rfl) (fun _ _ _ h => h) (Or.inl ⟨by rfl, ?_⟩) (by assumption) ?_
          rotate_left
          · (intro w hSw; (try dsimp only at hSw); go_simp; try with_reducible rfl)
          simp only [Act.put, List.getElem_toArray, List.getElem_cons_zero, List.getElem_cons_succ, List.setIfInBounds_toArray, List.set_cons_zero, List.set_cons_succ]
          refine wpAnyH_take (i := 8) (v := ?_) rfl (by kernel_rfl) (by kernel_rfl) (by kernel_rfl) (fun _ _ _ h => h) (Or.inl ⟨by rfl, ?_⟩) (by assumption) ?_
          rotate_left
          · (intro w hSw; (try dsimp only at hSw); go_simp; try with_reducible rfl)
          simp only [Act.put, List.getElem_toArray, List.getElem_cons_zero, List.getElem_cons_succ, List.setIfInBounds_toArray, List.set_cons_zero, List.set_cons_succ]
          refine wpAnyH_take (i := 9) (v := ?_) rfl (by kernel_rfl) (by kernel_rfl) (by kernel_rfl) (fun _ _ _ h => h) (Or.inl ⟨by rfl, ?_⟩) (by assumption) ?_
          rotate_left
          · (intro w hSw; (try dsimp only at hSw); go_simp; try with_reducible rfl)
          simp only [Act.put, List.getElem_toArray, List.getElem_cons_zero, List.getElem_cons_succ, List.setIfInBounds_toArray, List.set_cons_zero, List.set_cons_succ]
          refine wpAnyH_take (i := 10) (v := ?_) rfl (by kernel_rfl) (by kernel_rfl) (by kernel_rfl) (fun _ _ _ h => h) (Or.inl ⟨by rfl, ?_⟩) (by assumption) ?_
          rotate_left
          · (intro w hSw; (try dsimp only at hSw); go_simp; try with_reducible rfl)
          simp only [Act.put, List.getElem_toArray, List.getElem_cons_zero, List.getElem_cons_succ, List.setIfInBounds_toArray, List.set_cons_zero, List.set_cons_succ]
          refine wpAnyH_take (i := 11) (v := .agg (encT y).toArray) rfl (by kernel_rfl) (by kernel_rfl) (by kernel_rfl) (fun _ _ _ h => h) (yieldsIf_load_mid (by rfl) 51 (.tmp 25) rfl b (off + m * 36) rfl (encT y) _ (fun W h => h.2) Tryd.underlying51 rfl (sizeT y)) (by assumption) ?_
          simp only [Act.put, List.getElem_toArray, List.getElem_cons_zero, List.getElem_cons_succ, List.setIfInBounds_toArray, List.set_cons_zero, List.set_cons_succ]
          refine wpAnyH_take (i := 12) (v := .agg (encT x).toArray) rfl (by kernel_rfl) (by kernel_rfl) (by kernel_rfl) (fun _ _ _ h => h) (yieldsIf_load_mid (by rfl) 51 (.tmp 4) rfl g (0) rfl (encT x) _ (fun W h => h.1) Tryd.underlying51 rfl (sizeT x)) (by assumption) ?_
          simp only [Act.put, List.getElem_toArray, List.getElem_cons_zero, List.getElem_cons_succ, List.setIfInBounds_toArray, List.set_cons_zero, List.set_cons_succ]
          refine wpAnyH_ready (rs := [13]) (by kernel_rfl) (by simp) ?_
          refine AllReadyH.cons rfl (fun K hK => ?_) AllReadyH.nil
          go_simp
          refine (HM.out _ HC1.out).mono ?_
          rintro e y2 ⟨rfl, hy2⟩
          have HC2 : Hid (Below w1.heap.size w1 y2) := HC1.out.trans (hy2.mono HC1.out.size)
          clear hy2
          try unfold dv
          go_wp2_with fail
          refine hK.out _ _ (HS2.out _ HC2.out) (fun hHeld2 => ?_)
          clear hK K
          refine wpAnyH_take (i := 14) (v := ?_) rfl (by kernel_rfl) (by kernel_rfl) (by kernel_rfl) (fun _ _ _ h => h) (Or.inl ⟨by rfl, ?_⟩) (by assumption) ?_
          rotate_left
          · (intro w hSw; (try dsimp only at hSw); go_simp; try with_reducible rfl)
          simp only [Act.put, List.getElem_toArray, List.getElem_cons_zero, List.getElem_cons_succ, List.setIfInBounds_toArray, List.set_cons_zero, List.set_cons_succ]
          refine wpAnyH_take (i := 15) (v := ?_) rfl (by kernel_rfl) (by kernel_rfl) (by kernel_rfl) (fun _ _ _ h => h) (Or.inl ⟨by rfl, ?_⟩) (by assumption) ?_
          rotate_left
          · (intro w hSw; (try dsimp only at hSw); go_simp; try with_reducible rfl)
          simp only [Act.put, List.getElem_toArray, List.getElem_cons_zero, List.getElem_cons_succ, List.setIfInBounds_toArray, List.set_cons_zero, List.set_cons_succ]
          refine wpAnyH_take (i := 16) (v := ?_) rfl (by kernel_rfl) (by kernel_rfl) (by kernel_rfl) (fun _ _ _ h => h) (Or.inl ⟨by rfl, ?_⟩) (by assumption) ?_
          rotate_left
          · (intro w hSw; (try dsimp only at hSw); go_simp; try with_reducible rfl)
          simp only [Act.put, List.getElem_toArray, List.getElem_cons_zero, List.getElem_cons_succ, List.setIfInBounds_toArray, List.set_cons_zero, List.set_cons_succ]
          refine wpAnyH_done (by kernel_rfl) ?_ _
          cases k2 with
          | false =>
            have hr : r = false := HF.out (fun h => by
              have h5 := (h.2 (m + 1) (by rw [HLN.out]; exact hlt)).2 (by omega)
              rw [Nat.add_sub_cancel, HX.out, HY.out] at h5
              exact absurd (HO2.out.1 h5) (by decide))
            subst hr
            clear hm1 hm2 hm3 hm0 hwm
            go_wp2
            go_ret
            exact ⟨rfl, HBW.out.trans (HC2.out.mono HBW.out.size)⟩
          | true =>
            clear hm1 hm2 hm3 hm0 hwm
            go_wp2
            go_roundw
            case rel => exact ⟨m + 1 + 1, by go_num, by omega, right_step HS.out ⟨by rw [HX.out]; exact HO.out.2 (by simp), fun _ => by rw [Nat.add_sub_cancel, HX.out, HY.out]; exact HO2.out.2 (by simp)⟩, HBW.out.trans (HC2.out.mono HBW.out.size)⟩
            case measure => simp [intOf]; omega
    · have hltz : ¬ (i : Int) < (n : Int) := by omega
      obtain rfl := HT.out ⟨by rw [HE.out.1]; exact hn5, fun j hj => HS.out j (by rw [HE.out.1] at hj; omega)⟩
      go_wp2
      go_ret
      exact ⟨rfl, hbel⟩
end Go.Proofs.YtiimmknnlciljaaDoor
