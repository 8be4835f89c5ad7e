/-
  What marlstonelaw06.small answers, with the leaves' capacities: a contract over this translation.
-/
import Derived.Test.YtaebpnednhkfhaaDoorListsW
namespace Go.Proofs.YtaebpnednhkfhaaDoor
open Go.RowKit
set_option maxRecDepth 100000 in
set_option maxHeartbeats 4000000 in
theorem small6b_any (b off n c : Nat) (ao : Option Addr) (ps : List PP) (w : World) (hP : Pieces w b off ps) (hn : ps.length = n) (ha : 0 < n → ao = some ⟨b, off, none⟩) :
    Calls Tryd.prog 47 #[.slice ao n c] w fun e w' => ∃ ao' n' c', e = .returned (.slice ao' n' c') ∧ (∃ ls, LeavesV w' ao' n' c' ls ∧ bytesL ls = cutL ps 40 100 ∧ ∀ p ∈ ls, p.n ≤ p.c ∧ p.c ≤ 9223372036854775807) ∧ n' ≤ 40 ∧ Below w.heap.size w w' := by
  obtain ⟨i0, hi, hz0, hz1, hz2⟩ := info_parts info36
  have HI : Hid (Tryd.prog.info? 36 = some i0 ∧ i0.zero = some (.slice none 0 0) ∧ i0.size = 1 ∧ i0.bytes = 24) := ⟨hi, hz0, hz1, hz2⟩
  have HPS : Hid (Pieces w b off ps) := hP
  have HPN : Hid (ps.length = n ∧ (0 < n → ao = some ⟨b, off, none⟩)) := ⟨hn, ha⟩
  clear hP hn ha hi hz0 hz1 hz2
  go_enter Tryd.func47, Tryd.ntmps47
  go_wp2_with fail
  have HO0 : Hid (OwnL (w.alloc (.cells #[] 36)) w.heap.size (.slice (some ⟨w.heap.size, 0, none⟩) 0 0) []) := ⟨World.ownsRow_made w #[] 0 (Nat.le_refl _) (by unfold maxLen; omega) rfl, fun p hp => by cases hp⟩
  have HB0 : Hid (Below w.heap.size w (w.alloc (.cells #[] 36))) := bel_alloc _ _
  go_loopw [3, 4] (fun s3 s4 wr => ∃ (k : Nat) (ls : List LV), s4 = .int .i64 k ∧ k ≤ n ∧ k ≤ 40 ∧ Hid (OwnL wr w.heap.size s3 ls) ∧ Hid (bytesL ls = cutL ps k 100) ∧ Hid (ls.length = k) ∧ Hid (∀ p ∈ ls, p.n ≤ p.c ∧ p.c ≤ 9223372036854775807) ∧ Hid (Below w.heap.size w wr)) (fun _ x _ => 40 - (intOf x).toNat)
  case atStart => exact ⟨0, [], rfl, Nat.zero_le _, Nat.zero_le _, HO0, rfl, rfl, (fun p hp => (by cases hp)), HB0⟩
  case round =>
    obtain ⟨k, ls, rfl, hk, hk70, HO, HE, HLN, HCP, HBE⟩ := hrel
    by_cases hlt : k < n ∧ k < 40
    case neg =>
      have HF : Hid (bytesL ls = cutL ps 40 100) := by
        show _ = _
        rw [HE.out]
        rcases Nat.lt_or_ge k 40 with h | h
        · exact cutL_more ps k 40 100 (by have := HPN.out.1; omega) (by omega)
        · rw [show k = 40 by omega]
      obtain ⟨ao', c', HV', hL⟩ := HO.out.leaves
      obtain rfl := HV'
      have HL : Hid (LeavesV wr ao' ls.length c' ls ∧ ls.length ≤ 40) := ⟨hL, by have := HLN.out; omega⟩
      have hkz : ¬ ((k : Int) < (n : Int) ∧ (k : Int) < 40) := by omega
      clear hL hk
      by_cases h1 : k < n
      · have h1z : (k : Int) < (n : Int) := by omega
        have h2z : ¬ (k : Int) < 40 := by omega
        have h2d : decide ((k : Int) < 40) = false := decide_eq_false h2z
        clear hkz hlt h1 hk70
        go_wp2_with fail
        go_ret
        exact ⟨_, _, _, rfl, ⟨ls, HL.out.1, HF.out, HCP.out⟩, HL.out.2, HBE.out⟩
      · have h1z : ¬ (k : Int) < (n : Int) := by omega
        have h1d : decide ((k : Int) < (n : Int)) = false := decide_eq_false h1z
        have h1n : decide (k < n) = false := decide_eq_false h1
        clear hkz hlt h1 hk70
        go_wp2_with fail
        go_ret
        exact ⟨_, _, _, rfl, ⟨ls, HL.out.1, HF.out, HCP.out⟩, HL.out.2, HBE.out⟩
    case pos =>
      have h1z : (k : Int) < (n : Int) := by omega
      have h2z : (k : Int) < 40 := by omega
      have h1d : decide ((k : Int) < (n : Int)) = true := decide_eq_true h1z
      have h2d : decide ((k : Int) < 40) = true := decide_eq_true h2z
      have h1n : decide (k < n) = true := decide_eq_true hlt.1
      obtain rfl := HPN.out.2 (by omega)
      obtain ⟨⟨pao, pn, pc, pb⟩, HP⟩ : ∃ p, Hid (ps[k]? = some p) := ⟨_, List.getElem?_eq_getElem (by have := HPN.out.1; omega)⟩
      have HPK : Hid (∀ W, Below w.heap.size w W → W.cell? ⟨b, off + k, none⟩ = some (.slice pao pn pc)) := fun W hW => bel_cell2 hW (Nat.le_refl _) (HPS.out k _ HP.out).1
      have HPB : Hid (Bytes w pao pn pb ∧ pn ≤ pc ∧ pc ≤ 9223372036854775807 ∧ (pao = none → pc = 0)) := (HPS.out k _ HP.out).2
      obtain ⟨m, HM⟩ : ∃ m, Hid (min pn 100 = m) := ⟨_, rfl⟩
      have hm : min (pn : Int) 100 = (m : Int) := by have := HM.out; omega
      have hmc : m ≤ pc := by have := HM.out; have := HPB.out.2.1; omega
      have hmcz : (m : Int) ≤ (pc : Int) := by omega
      have HM2 : Hid (m ≤ pn ∧ m ≤ 100) := by show _ ∧ _; have := HM.out; omega
      have HTB : Hid (pb.take 100 = pb.take m) := by
        show _ = _
        have h := HPB.out.1.1
        have h2 := HM.out
        rcases Nat.lt_or_ge pn 100 with h3 | h3
        · rw [List.take_of_length_le (by omega), List.take_of_length_le (by omega)]
        · rw [show m = 100 by omega]
      go_upto_region 5 with fail
      have HS : Hid (∀ W, Below w.heap.size w W → W.cell? ⟨b, off + k, none⟩ = some (.slice pao pn pc)) := HPK
      clear h1d h2d h1n
      refine wp_region_held_drew (S := fun W => W.cell? ⟨b, off + k, none⟩ = some (.slice pao pn pc)) (by kernel_rfl) (HS.out _ (Below.drew HBE.out)) (fun hS => ?_)
      refine wpAnyH_take (i := 0) (v := ?_) rfl (by kernel_rfl) (by kernel_rfl) (by kernel_rfl) (fun _ _ _ h => h) (Or.inl ⟨by rfl, ?_⟩) (by assumption) ?_
      rotate_left
      · (intro w hSw; (try dsimp only at hSw); go_simp; try with_reducible rfl)
      simp only [Act.put, List.getElem_toArray, List.getElem_cons_zero, List.setIfInBounds_toArray, List.set_cons_zero, List.set_cons_succ]
      refine wpAnyH_take (i := 2) (v := ?_) rfl (by kernel_rfl) (by kernel_rfl) (by kernel_rfl) (fun _ _ _ h => h) (Or.inl ⟨by rfl, ?_⟩) (by assumption) ?_
      rotate_left
      · (intro w hSw; (try dsimp only at hSw); go_simp; try with_reducible rfl)
      simp only [Act.put, List.getElem_toArray, List.getElem_cons_zero, List.getElem_cons_succ, List.setIfInBounds_toArray, List.set_cons_zero, List.set_cons_succ]
      refine wpAnyH_take (i := 3) (v := ?_) rfl (by kernel_rfl) (by kernel_rfl) (by kernel_rfl) (fun _ _ _ h => h) (Or.inl ⟨by rfl, ?_⟩) (by assumption) ?_
      rotate_left
      · (intro w hSw; (try dsimp only at hSw); go_simp; try with_reducible rfl)
      simp only [Act.put, List.getElem_toArray, List.getElem_cons_zero, List.getElem_cons_succ, List.setIfInBounds_toArray, List.set_cons_zero, List.set_cons_succ]
      refine wpAnyH_take (i := 4) (v := ?_) rfl (by kernel_rfl) (by kernel_rfl) (by kernel_rfl) (fun _ _ _ h => h) (Or.inl ⟨by rfl, ?_⟩) (by assumption) ?_
      rotate_left
      · (intro w hSw; (try dsimp only at hSw); go_simp; try with_reducible rfl)
      simp only [Act.put, List.getElem_toArray, List.getElem_cons_zero, List.getElem_cons_succ, List.setIfInBounds_toArray, List.set_cons_zero, List.set_cons_succ]
      refine wpAnyH_take (i := 5) (v := ?_) rfl (by kernel_rfl) (by kernel_rfl) (by kernel_rfl) (fun _ _ _ h => h) (Or.inl ⟨by rfl, ?_⟩) (by assumption) ?_
      rotate_left
      · (intro w hSw; (try dsimp only at hSw); go_simp; try with_reducible rfl)
      simp only [Act.put, List.getElem_toArray, List.getElem_cons_zero, List.getElem_cons_succ, List.setIfInBounds_toArray, List.set_cons_zero, List.set_cons_succ]
      refine wpAnyH_take (i := 6) (v := ?_) rfl (by kernel_rfl) (by kernel_rfl) (by kernel_rfl) (fun _ _ _ h => h) (Or.inl ⟨by rfl, ?_⟩) (by assumption) ?_
      rotate_left
      · (intro w hSw; (try dsimp only at hSw); go_simp; try with_reducible rfl)
      simp only [Act.put, List.getElem_toArray, List.getElem_cons_zero, List.getElem_cons_succ, List.setIfInBounds_toArray, List.set_cons_zero, List.set_cons_succ]
      refine wpAnyH_take (i := 7) (v := ?_) rfl (by kernel_rfl) (by kernel_rfl) (by kernel_rfl) (fun _ _ _ h => h) (Or.inl ⟨by rfl, ?_⟩) (by assumption) ?_
      rotate_left
      · (intro w hSw; (try dsimp only at hSw); go_simp; try with_reducible rfl)
      simp only [Act.put, List.getElem_toArray, List.getElem_cons_zero, List.getElem_cons_succ, List.setIfInBounds_toArray, List.set_cons_zero, List.set_cons_succ]
      refine wpAnyH_take (i := 8) (v := ?_) rfl (by kernel_rfl) (by kernel_rfl) (by kernel_rfl) (fun _ _ _ h => h) (Or.inl ⟨by rfl, ?_⟩) (by assumption) ?_
      rotate_left
      · (intro w hSw; (try dsimp only at hSw); go_simp; try with_reducible rfl)
      simp only [Act.put, List.getElem_toArray, List.getElem_cons_zero, List.getElem_cons_succ, List.setIfInBounds_toArray, List.set_cons_zero, List.set_cons_succ]
      refine wpAnyH_take (i := 9) (v := ?_) rfl (by kernel_rfl) (by kernel_rfl) (by kernel_rfl) (fun _ _ _ h => h) (Or.inl ⟨by rfl, ?_⟩) (by assumption) ?_
      rotate_left
      · (intro w hSw; (try dsimp only at hSw); go_simp; try with_reducible rfl)
      simp only [Act.put, List.getElem_toArray, List.getElem_cons_zero, List.getElem_cons_succ, List.setIfInBounds_toArray, List.set_cons_zero, List.set_cons_succ]
      refine wpAnyH_take (i := 10) (v := ?_) rfl (by kernel_rfl) (by kernel_rfl) (by kernel_rfl) (fun _ _ _ h => h) (Or.inl ⟨by rfl, ?_⟩) (by assumption) ?_
      rotate_left
      · (intro w hSw; (try dsimp only at hSw); go_simp; try with_reducible rfl)
      simp only [Act.put, List.getElem_toArray, List.getElem_cons_zero, List.getElem_cons_succ, List.setIfInBounds_toArray, List.set_cons_zero, List.set_cons_succ]
      refine wpAnyH_take (i := 11) (v := ?_) rfl (by kernel_rfl) (by kernel_rfl) (by kernel_rfl) (fun _ _ _ h => h) (Or.inl ⟨by rfl, ?_⟩) (by assumption) ?_
      rotate_left
      · (intro w hSw; (try dsimp only at hSw); go_simp; try with_reducible rfl)
      simp only [Act.put, List.getElem_toArray, List.getElem_cons_zero, List.getElem_cons_succ, List.setIfInBounds_toArray, List.set_cons_zero, List.set_cons_succ]
      refine wpAnyH_take (i := 12) (v := ?_) rfl (by kernel_rfl) (by kernel_rfl) (by kernel_rfl) (fun _ _ _ h => h) (Or.inl ⟨by rfl, ?_⟩) (by assumption) ?_
      rotate_left
      · (intro w hSw; (try dsimp only at hSw); go_simp; try with_reducible rfl)
      simp only [Act.put, List.getElem_toArray, List.getElem_cons_zero, List.getElem_cons_succ, List.setIfInBounds_toArray, List.set_cons_zero, List.set_cons_succ]
      refine wpAnyH_ready (rs := [1]) (by kernel_rfl) (by simp) ?_
      refine AllReadyH.cons rfl (fun K hK => ?_) AllReadyH.nil
      go_simp
      refine hK.out _ _ (HS.out _ (Below.drew (HBE.out.trans ((bel_alloc wr _).mono HBE.out.size)))) (fun hHeld2 => ?_)
      clear hK K
      have HE1 : Hid (((wr.alloc (.cells #[] 5)).drew).ownsRow wr.heap.size 5 1 (.slice (some ⟨wr.heap.size, 0, none⟩) 0 0) 0 (cellsOf [])) := own_empty wr
      have HB1 : Hid (Below wr.heap.size wr ((wr.alloc (.cells #[] 5)).drew)) := Below.drew (bel_alloc wr _)
      obtain ⟨w1, HW1⟩ : ∃ W, Hid ((wr.alloc (.cells #[] 5)).drew = W) := ⟨_, rfl⟩
      have HPB1 : Hid (Bytes w1 pao m (pb.take m)) := by
        have h := bytes_kept (bytes_kept HPB.out.1 HBE.out (Nat.le_refl _)) HB1.out (Nat.le_refl _)
        rw [HW1.out] at h
        exact bytes_take h m HM2.out.1
      rw [HW1.out] at HE1 HB1 ⊢
      clear HW1
      refine wpAnyH_ready (rs := [13]) (by kernel_rfl) (by simp) ?_
      refine AllReadyH.cons rfl (fun K hK => ?_) AllReadyH.nil
      refine step_append_bytes w1 rfl (.tmp 17) (.tmp 28) rfl wr.heap.size _ 0 [] rfl HE1.out HB1.out.size pao m pc (pb.take m) rfl HPB1.out HPB.out.2.2.2 (by have := HM2.out; omega) ?_
      intro v2 w2 hown2 hb2
      have HB2 : Hid (Below wr.heap.size wr w2) := HB1.out.trans hb2
      obtain ⟨ao2, c2, rfl, hby2, hno2, hc2, hcm2, hl2, hbl2⟩ := own_bytes hown2
      have HCM : Hid (c2 ≤ 9223372036854775807) := by show _ ≤ _; unfold maxLen at hcm2; omega
      clear hcm2
      have HT2 := own_type hown2
      refine hK.out _ _ (HS.out _ (HBE.out.trans (HB2.out.mono HBE.out.size))) (fun hHeld2 => ?_)
      clear hK K
      simp only [Act.put, List.getElem_toArray, List.getElem_cons_zero, List.getElem_cons_succ, List.setIfInBounds_toArray, List.set_cons_zero, List.set_cons_succ]
      have hlen2 : ([] ++ pb.take m).length = m := by have h1 := HPB1.out.1; simpa using h1
      rw [hlen2] at hown2 hby2 hc2 hl2 ⊢
      rw [List.nil_append] at hby2
      have HV2 : Hid (Bytes w2 ao2 m (pb.take m) ∧ (ao2 = none → c2 = 0) ∧ m ≤ c2 ∧ ∀ a, ao2 = some a → ∃ cs fr, w2.heap[a.block]? = some (.cells cs 5 fr)) := ⟨hby2, hno2, hc2, HT2⟩
      clear hown2 hb2 hby2 hno2 hc2 hl2 hbl2 hlen2 HT2
      refine wpAnyH_ready (rs := [14]) (by kernel_rfl) (by simp) ?_
      refine AllReadyH.cons rfl (fun K hK => ?_) AllReadyH.nil
      go_simp
      have HB3 : Hid (Below wr.heap.size wr (w2.alloc (.cells #[.slice ao2 m c2] 36))) := HB2.out.trans ((bel_alloc w2 _).mono HB2.out.size)
      have HC3 : Hid (∀ j u, [Value.slice ao2 m c2][j]? = some u → (w2.alloc (.cells #[.slice ao2 m c2] 36)).cell? ((⟨w2.heap.size, 0, none⟩ : Addr).add j) = some u) := fun j u hu => by
        rw [Addr.add_lit, cell_of_row _ _ _ _ _ _ (heap_alloc_new w2 _)]
        simpa using hu
      have HT3 : Hid (∀ a, ao2 = some a → ∃ cs fr, (w2.alloc (.cells #[.slice ao2 m c2] 36)).heap[a.block]? = some (.cells cs 5 fr)) := fun a h => by
        obtain ⟨cs, fr, h1⟩ := HV2.out.2.2.2 a h
        exact ⟨cs, fr, ((bel_alloc w2 _).block _ (Array.getElem?_eq_some_iff.1 h1).1).trans h1⟩
      have HY3 : Hid (Bytes (w2.alloc (.cells #[.slice ao2 m c2] 36)) ao2 m (pb.take m)) := bytes_kept HV2.out.1 (bel_alloc w2 _) (Nat.le_refl _)
      refine hK.out _ _ (HS.out _ (HBE.out.trans (HB3.out.mono HBE.out.size))) (fun hHeld2 => ?_)
      clear hK K
      obtain ⟨w3, HW3⟩ : ∃ W, Hid (w2.alloc (.cells #[.slice ao2 m c2] 36) = W) := ⟨_, rfl⟩
      rw [HW3.out] at HB3 HC3 HT3 HY3 ⊢
      have HO3 : Hid (OwnL w3 w.heap.size u3 ls) := HO.out.below HB3.out (Nat.le_refl _)
      clear HW3
      refine wpAnyH_ready (rs := [15]) (by kernel_rfl) (by simp) ?_
      refine AllReadyH.cons rfl (fun K hK => ?_) AllReadyH.nil
      refine step_append_twok w3 rfl (.tmp 16) (.tmp 30) 22 36 rfl i0 _ 1 24 Tryd.underlying22 HI.out.1 HI.out.2.1 HI.out.2.2.1 HI.out.2.2.2 rfl (by decide) w.heap.size u3 ls.length (slVs ls) rfl HO3.out.1 (Nat.le_trans HBE.out.size HB3.out.size) w2.heap.size 1 1 [.slice ao2 m c2] rfl rfl HC3.out (fun u hu => by rw [List.mem_singleton] at hu; rw [hu]; rfl) (by have := HLN.out; omega) (by decide) ?_
      intro v4 w4 hown4 hb4 hk4 hn4
      have HO4 : Hid (OwnL w4 w.heap.size v4 (ls ++ [⟨ao2, m, c2, pb.take m⟩])) := HO3.out.append hown4 hk4 HY3.out (show m ≤ 140737488355000 by have := HM2.out; omega) HV2.out.2.1 HT3.out
      have HB4 : Hid (Below w.heap.size w w4) := (HBE.out.trans (HB3.out.mono HBE.out.size)).trans hb4
      refine hK.out _ _ (HS.out _ HB4.out) (fun hHeld2 => ?_)
      clear hK K hown4 hb4 hk4 hn4
      simp only [Act.put, List.getElem_toArray, List.getElem_cons_zero, List.getElem_cons_succ, List.setIfInBounds_toArray, List.set_cons_zero, List.set_cons_succ]
      refine wpAnyH_take (i := 16) (v := ?_) rfl (by kernel_rfl) (by kernel_rfl) (by kernel_rfl) (fun _ _ _ h => h) (Or.inl ⟨by rfl, ?_⟩) (by assumption) ?_
      rotate_left
      · (intro w hSw; (try dsimp only at hSw); go_simp; try with_reducible rfl)
      simp only [Act.put, List.getElem_toArray, List.getElem_cons_zero, List.getElem_cons_succ, List.setIfInBounds_toArray, List.set_cons_zero, List.set_cons_succ]
      refine wpAnyH_done (by kernel_rfl) ?_ _
      clear hS hHeld2
      have HE4 : Hid (bytesL (ls ++ [⟨ao2, m, c2, pb.take m⟩]) = cutL ps (k + 1) 100) := by
        show _ = _
        rw [bytesL_append, HE.out, cutL_succ ps k 100 _ HP.out, HTB.out]
        rfl
      have HL4 : Hid ((ls ++ [(⟨ao2, m, c2, pb.take m⟩ : LV)]).length = k + 1) := by show _ = _; rw [List.length_append, HLN.out]; rfl
      have HCP4 : Hid (∀ p ∈ ls ++ [(⟨ao2, m, c2, pb.take m⟩ : LV)], p.n ≤ p.c ∧ p.c ≤ 9223372036854775807) := fun p hp => by
        rcases List.mem_append.1 hp with h | h
        · exact HCP.out p h
        · rw [List.mem_singleton.1 h]; exact ⟨HV2.out.2.2.1, HCM.out⟩
      have hk1 : k + 1 ≤ n := by omega
      have hk2 : k + 1 ≤ 40 := by omega
      clear hm hmc hmcz h1z h2z
      go_wp2_with fail
      refine ⟨⟨k + 1, _, rfl, hk1, hk2, HO4, HE4, HL4, HCP4, HB4⟩, ?_⟩
      simp [intOf]
      omega
end Go.Proofs.YtaebpnednhkfhaaDoor
