/-
  What tree.Path of a tree answers: a contract over this translation.
-/
import Derived.Test.YtaebpnednhkfhaaDoorPartH
import Derived.Test.YtaebpnednhkfhaaDoorRange
namespace Go.Proofs.YtaebpnednhkfhaaDoor
open Go.RowKit
/-- The parts beside, as spans. -/
def spanS (l : List St) : List (Nat × Nat) := l.map fun p => (p.a, p.b)
theorem store_fn (w : World) (x y f : Value) (h1 : f.oneCell' = true) : Sem.run Tryd.prog (store ⟨w.heap.size, 2, none⟩ f) (w.alloc (.cells #[x, y, .nilFunc] 92)) = .ok () (w.alloc (.cells #[x, y, f] 92)) := by
  have h := heap_alloc_new w (.cells #[x, y, .nilFunc] 92)
  rw [run_store _ _ _ _ _ h1, cell_of_row _ _ 2 _ _ _ h, frozen_of_row _ _ 2 _ _ h, World.setCell_alloc_new]
  rfl
set_option maxHeartbeats 2000000 in
set_option maxRecDepth 100000 in
theorem path_wrong (z : Int) (ao : Option Addr) (n c : Nat) (x : Int) (w : World) (hno : ¬ (0 ≤ x ∧ x < n)) :
    Calls Tryd.prog 33 #[.agg #[.int .i64 z], .slice ao n c, .int .i64 x] w fun e w' => e = .returned (.tuple #[.slice none 0 0, .int .i64 1]) ∧ Below w.heap.size w w' := by
  by_cases h1 : x < 0
  · clear hno
    go_enter Tryd.func33, Tryd.ntmps33
    go_wp2
    go_ret2
    exact ⟨rfl, bel_alloc _ _⟩
  · have h1d : decide (x < 0) = false := decide_eq_false h1
    have h3 : (n : Int) ≤ x := by omega
    clear hno
    go_enter Tryd.func33, Tryd.ntmps33
    go_wp2
    go_ret2
    exact ⟨rfl, bel_alloc _ _⟩
set_option maxHeartbeats 4000000 in
set_option maxRecDepth 100000 in
theorem path_some (z : Int) (b off n c : Nat) (ls : List LV) (x : Nat) (w : World) (hL : LeavesV w (some ⟨b, off, none⟩) n c ls) (hn : n ≤ 1000) (hx : x < n) (hK : WW w 0 ks) (hz0 : 0 < w.heap.size) (hz : -9223372036854775808 ≤ z ∧ z ≤ 9223372036854775807) :
    Calls Tryd.prog 33 #[.agg #[.int .i64 z], .slice (some ⟨b, off, none⟩) n c, .int .i64 (x : Int)] w fun e w' => ∃ v, e = .returned (.tuple #[v, .int .i64 0]) ∧ DgV w' w.heap.size v (besideD z ls (spanS (upL n x))) ∧ Below w.heap.size w w' := by
  have HOI : Hid (∀ p ∈ upL n x, 0 ≤ p.a ∧ p.a < p.b ∧ p.b ≤ n) := upL_in hx (by omega)
  have HOL : Hid ((upL n x).length ≤ 64) := upL_len n x
  have HO : Hid (∀ W, Calls Tryd.prog 65 #[.int .i64 (n : Int), .int .i64 (x : Int)] W fun e w' => ∃ ao c, e = .returned (.slice ao (upL n x).length c) ∧ StV w' W.heap.size ao (upL n x) ∧ Below W.heap.size W w') := fun W => steps_any n x W hx (by omega)
  have HOF : Hid (∀ p : Nat × Nat, 0 ≤ p.1 ∧ p.1 < p.2 ∧ p.2 ≤ n → ∀ W, Calls Tryd.prog 59 #[.agg #[.int .i64 (p.1 : Int), .int .i64 (p.2 : Int)], .slice (some ⟨b, off, none⟩) n c] W fun e w' => e = .returned (.slice (some ⟨b, off + p.1, none⟩) (p.2 - p.1) (c - p.1)) ∧ Below W.heap.size W w') := fun p hp W => of_span p.1 p.2 b off n c W hp.2.1 hp.2.2 hL.2.1
  have HRT : Hid (∀ p : Nat × Nat, 0 ≤ p.1 ∧ p.1 < p.2 ∧ p.2 ≤ n → ∀ W, Below w.heap.size w W → Calls Tryd.prog 23 #[.agg #[.int .i64 z], .slice (some ⟨b, off + p.1, none⟩) (p.2 - p.1) (c - p.1)] W fun e w' => e = .returned (dv (rootD z (bytesL (partL ls p.1 p.2)))) ∧ Below W.heap.size W w') := fun p hp W hW => root_any z hz (p.2 - p.1) _ _ _ W ((hL.below hW (Nat.le_refl _)).part p.1 p.2 hp.2.1 hp.2.2) (by omega) (hK.below hW hz0) (Nat.lt_of_lt_of_le hz0 hW.size)
  have y1 : ¬ (x : Int) < 0 := by omega
  have y1d : decide ((x : Int) < 0) = false := decide_eq_false y1
  have y2 : ¬ (n : Int) ≤ (x : Int) := by omega
  have y2d : decide ((n : Int) ≤ (x : Int)) = false := decide_eq_false y2
  have y2n : decide (n ≤ x) = false := decide_eq_false (by omega)
  obtain ⟨sp, HSP⟩ : ∃ s, Hid (upL n x = s) := ⟨_, rfl⟩
  rw [HSP.out] at HOI HOL HO ⊢
  clear hL hn hx hK hz0 hz
  obtain ⟨i0, hi, hz0, hz1, hz2⟩ := info_parts info24
  go_enter Tryd.func33, Tryd.ntmps33
  go_wp2_with fail
  refine (HO.out _).mono ?_
  rintro e w1 ⟨aoS, cS, rfl, hs1, hb1⟩
  have HB1 : Hid (Below w.heap.size w w1) := (bel_alloc w _).trans (hb1.mono (by simp))
  have HC0 : Hid (w1.cell? ⟨w.heap.size, 0, none⟩ = some (.int .i64 z)) := by
    refine bel_cell2 hb1 (Nat.le_refl _) ?_
    rw [cell_of_row _ _ 0 _ _ _ (heap_alloc_new w _)]; rfl
  have HCS : Hid (StV w1 (w.heap.size + 1) aoS sp) := by show StV _ _ _ _; simpa using hs1
  obtain ⟨L, HL⟩ : ∃ L, Hid (sp.length = L) := ⟨_, rfl⟩
  rw [HL.out] at HOL ⊢
  clear hb1 hs1 y1 y1d y2 y2d y2n HO
  go_wp2_with fail
  go_loopw [8, 10, 24] (fun s8 _ s24 wr => ∃ k : Nat, s24 = .int .i64 k ∧ k ≤ L ∧ Hid (DgV wr w1.heap.size s8 (besideD z ls (spanS (sp.take k)))) ∧ Hid (Below w1.heap.size w1 wr)) (fun _ _ x _ => L - (intOf x).toNat)
  case atStart => exact ⟨0, rfl, Nat.zero_le _, dgv_nil _ _, Below.refl _ _⟩
  case round =>
    obtain ⟨k, rfl, hk, HD, HBE⟩ := hrel
    by_cases hlt : k < L
    case neg =>
      have hkz : ¬ (k : Int) < (L : Int) := by omega
      have HE : Hid (sp.take k = sp) := List.take_of_length_le (by have := HL.out; omega)
      rw [HE.out] at HD
      clear hk hlt
      go_wp2_with fail
      go_ret2
      exact ⟨_, rfl, HD.out.mono HB1.out.size, HB1.out.trans (HBE.out.mono HB1.out.size)⟩
    case pos =>
      have hkz : (k : Int) < (L : Int) := by omega
      obtain ⟨g, rfl, -, hcc⟩ := HCS.out (by have := HL.out; omega)
      obtain ⟨⟨p1, p2, rr⟩, HP⟩ : ∃ p, Hid (sp[k]? = some p) := ⟨_, List.getElem?_eq_getElem (by have := HL.out; omega)⟩
      obtain ⟨c0, c1, c2⟩ := hcc k _ HP.out
      have c0 := bel_cell2 HBE.out (Nat.le_refl _) c0
      have c1 := bel_cell2 HBE.out (Nat.le_refl _) c1
      have c2 := bel_cell2 HBE.out (Nat.le_refl _) c2
      have HPI : Hid (0 ≤ p1 ∧ p1 < p2 ∧ p2 ≤ n) := HOI.out _ (List.mem_of_getElem? HP.out)
      obtain ⟨fq, HFV⟩ : ∃ q, Hid (fnS rr = .func (.func q) #[] #[]) := ⟨_, rfl⟩
      dsimp only at c0 c1 c2
      rw [HFV.out] at c2
      have hst := store_fn wr (.int .i64 (p1 : Int)) (.int .i64 (p2 : Int)) (.func (.func fq) #[] #[]) rfl
      clear hcc hlt
      go_upto_region 7 with fail
      obtain ⟨W4, HW4⟩ : ∃ W, Hid (W = wr.alloc (.cells #[.int .i64 (p1 : Int), .int .i64 (p2 : Int), .func (.func fq) #[] #[]] 92)) := ⟨_, rfl⟩
      rw [← HW4.out]
      have HB4 : Hid (Below wr.heap.size wr W4) := by show Below _ _ _; rw [HW4.out]; exact bel_alloc _ _
      have HN4 : Hid (W4.heap[wr.heap.size]? = some (.cells #[.int .i64 (p1 : Int), .int .i64 (p2 : Int), .func (.func fq) #[] #[]] 92 (0, 0))) := by show _ = _; rw [HW4.out]; exact heap_alloc_new wr _
      have HZ4 : Hid (W4.heap.size = wr.heap.size + 1) := by show _ = _; rw [HW4.out]; simp
      have HS : Hid (∀ W : World, (∀ q, q < W4.heap.size → q < w1.heap.size ∨ q = wr.heap.size → W.heap[q]? = W4.heap[q]?) → W.cell? ⟨w.heap.size, 0, none⟩ = some (.int .i64 z) ∧ W.cell? ⟨wr.heap.size, 0, none⟩ = some (.int .i64 (p1 : Int)) ∧ W.cell? ⟨wr.heap.size, 1, none⟩ = some (.int .i64 (p2 : Int))) := fun W hW => by
        have q1 := World.cell?_of_block (w := W4) (w' := W) (a := ⟨w.heap.size, 0, none⟩) (hW w.heap.size (by rw [HZ4.out]; have := HBE.out.size; have := World.block_lt_of_cell? _ _ HC0.out; simp at this; omega) (Or.inl (World.block_lt_of_cell? _ _ HC0.out)))
        have q2 : W.heap[wr.heap.size]? = W4.heap[wr.heap.size]? := hW _ (by rw [HZ4.out]; omega) (Or.inr rfl)
        rw [HN4.out] at q2
        refine ⟨?_, ?_, ?_⟩
        · rw [q1]; exact bel_cell2 (HBE.out.trans (HB4.out.mono HBE.out.size)) (Nat.le_refl _) HC0.out
        · rw [cell_of_row _ _ 0 _ _ _ q2]; rfl
        · rw [cell_of_row _ _ 1 _ _ _ q2]; rfl
      have HSB : Hid (∀ W, Below W4.heap.size W4 W → W.cell? ⟨w.heap.size, 0, none⟩ = some (.int .i64 z) ∧ W.cell? ⟨wr.heap.size, 0, none⟩ = some (.int .i64 (p1 : Int)) ∧ W.cell? ⟨wr.heap.size, 1, none⟩ = some (.int .i64 (p2 : Int))) := fun W hW => HS.out W (fun q hq _ => hW.block q hq)
      have HBW : Hid (Below w.heap.size w W4) := HB1.out.trans ((HBE.out.trans (HB4.out.mono HBE.out.size)).mono HB1.out.size)
      obtain ⟨d, HDD⟩ : ∃ d, Hid (rootD z (bytesL (partL ls p1 p2)) = d) := ⟨_, rfl⟩
      have HOFp : Hid (∀ W, Calls Tryd.prog 59 #[.agg #[.int .i64 (p1 : Int), .int .i64 (p2 : Int)], .slice (some ⟨b, off, none⟩) n c] W fun e w' => e = .returned (.slice (some ⟨b, off + p1, none⟩) (p2 - p1) (c - p1)) ∧ Below W.heap.size W w') := HOF.out (p1, p2) HPI.out
      have HRTp : Hid (∀ W, Below w.heap.size w W → Calls Tryd.prog 23 #[.agg #[.int .i64 z], .slice (some ⟨b, off + p1, none⟩) (p2 - p1) (c - p1)] W fun e w' => e = .returned (dv d) ∧ Below W.heap.size W w') := by
        have h := HRT.out (p1, p2) HPI.out
        simp only [HDD.out] at h
        exact h
      have HDL : Hid (d.length = 32) := by show _ = _; rw [← HDD.out]; exact rootD_length _ _
      clear hst c0 c1 c2 HOF HRT HOI
      refine wp_region_held_drew (S := fun W => W.cell? ⟨w.heap.size, 0, none⟩ = some (.int .i64 z) ∧ W.cell? ⟨wr.heap.size, 0, none⟩ = some (.int .i64 (p1 : Int)) ∧ W.cell? ⟨wr.heap.size, 1, none⟩ = some (.int .i64 (p2 : Int))) (by kernel_rfl) (HSB.out _ (Below.drew (Below.refl _ _))) (fun hS => ?_)
      refine wpAnyH_take (i := 0) (v := ?_) rfl (by kernel_rfl) (by kernel_rfl) (by kernel_rfl) (fun _ _ _ h => h) (Or.inl ⟨by rfl, ?_⟩) (by assumption) ?_
      rotate_left
      · (intro w hSw; (try dsimp only at hSw); go_simp; try with_reducible rfl)
      simp only [Act.put, List.getElem_toArray, List.getElem_cons_zero, List.setIfInBounds_toArray, List.set_cons_zero, List.set_cons_succ]
      refine wpAnyH_take (i := 1) (v := ?_) rfl (by kernel_rfl) (by kernel_rfl) (by kernel_rfl) (fun _ _ _ h => h) (Or.inl ⟨by rfl, ?_⟩) (by assumption) ?_
      rotate_left
      · (intro w hSw; (try dsimp only at hSw); go_simp; try with_reducible rfl)
      simp only [Act.put, List.getElem_toArray, List.getElem_cons_zero, List.getElem_cons_succ, List.setIfInBounds_toArray, List.set_cons_zero, List.set_cons_succ]
      refine wpAnyH_take (i := 2) (v := ?_) rfl (by kernel_rfl) (by kernel_rfl) (by kernel_rfl) (fun _ _ _ h => h) (Or.inl ⟨by rfl, ?_⟩) (by assumption) ?_
      rotate_left
      · (intro w hSw; (try dsimp only at hSw); go_simp; try with_reducible rfl)
      simp only [Act.put, List.getElem_toArray, List.getElem_cons_zero, List.getElem_cons_succ, List.setIfInBounds_toArray, List.set_cons_zero, List.set_cons_succ]
      refine wpAnyH_take (i := 3) (v := ?_) rfl (by kernel_rfl) (by kernel_rfl) (by kernel_rfl) (fun _ _ _ h => h) (Or.inl ⟨by rfl, ?_⟩) (by assumption) ?_
      rotate_left
      · (intro w hSw; (try dsimp only at hSw); go_simp; try with_reducible rfl)
      simp only [Act.put, List.getElem_toArray, List.getElem_cons_zero, List.getElem_cons_succ, List.setIfInBounds_toArray, List.set_cons_zero, List.set_cons_succ]
      refine wpAnyH_take (i := 4) (v := ?_) rfl (by kernel_rfl) (by kernel_rfl) (by kernel_rfl) (fun _ _ _ h => h) (Or.inl ⟨by rfl, ?_⟩) (by assumption) ?_
      rotate_left
      · (intro w hSw; (try dsimp only at hSw); go_simp; try with_reducible rfl)
      simp only [Act.put, List.getElem_toArray, List.getElem_cons_zero, List.getElem_cons_succ, List.setIfInBounds_toArray, List.set_cons_zero, List.set_cons_succ]
      refine wpAnyH_ready (rs := [5]) (by kernel_rfl) (by simp) ?_
      refine AllReadyH.cons rfl (fun K hK => ?_) AllReadyH.nil
      go_simp
      refine (HOFp.out _).mono ?_
      rintro e w5 ⟨rfl, hb5⟩
      have HB5 : Hid (Below W4.heap.size W4 w5) := (Below.drew (Below.refl _ _)).trans hb5
      go_wp2_with fail
      refine hK.out _ _ (HSB.out _ HB5.out) (fun hHeld2 => ?_)
      clear hK K hb5
      refine wpAnyH_ready (rs := [6]) (by kernel_rfl) (by simp) ?_
      refine AllReadyH.cons rfl (fun K hK => ?_) AllReadyH.nil
      go_simp
      refine (HRTp.out _ (HBW.out.trans (HB5.out.mono HBW.out.size))).mono ?_
      rintro e w6 ⟨rfl, hb6⟩
      have HB6 : Hid (Below W4.heap.size W4 w6) := HB5.out.trans (hb6.mono HB5.out.size)
      go_wp2_with fail
      refine hK.out _ _ (HSB.out _ HB6.out) (fun hHeld2 => ?_)
      clear hK K hb6
      refine wpAnyH_ready (rs := [7]) (by kernel_rfl) (by simp) ?_
      refine AllReadyH.cons rfl (fun K hK => ?_) AllReadyH.nil
      refine step_build_dig _ rfl (.tmp 34) rfl d rfl HDL.out ?_
      obtain ⟨w7, HW7⟩ : ∃ W, Hid (W = w6.alloc (.cells (cellsOf d).toArray 24)) := ⟨_, rfl⟩
      have HC7 : Hid (∀ j u, (cellsOf d)[j]? = some u → w7.cell? ((⟨w6.heap.size, 0, none⟩ : Addr).add j) = some u) := by have h := dig_cells w6 d; rw [← HW7.out] at h; exact h
      have HB67 : Hid (Below w6.heap.size w6 w7) := by show Below _ _ _; rw [HW7.out]; exact bel_alloc _ _
      rw [← HW7.out]
      have HB7 : Hid (Below W4.heap.size W4 w7) := HB6.out.trans (HB67.out.mono HB6.out.size)
      refine hK.out _ _ (HSB.out _ HB7.out) (fun hHeld2 => ?_)
      clear hK K
      simp only [Act.put, List.getElem_toArray, List.getElem_cons_zero, List.getElem_cons_succ, List.setIfInBounds_toArray, List.set_cons_zero, List.set_cons_succ]
      have HBR : Hid (Below wr.heap.size wr w7) := HB4.out.trans (HB7.out.mono HB4.out.size)
      have HD7 : Hid (DgV w7 w1.heap.size u8 (besideD z ls (spanS (sp.take k)))) := HD.out.below HBR.out (Nat.le_refl _)
      have HLN : Hid ((besideD z ls (spanS (sp.take k))).length = k) := by show _ = _; rw [besideD, List.length_map, spanS, List.length_map, List.length_take]; have := HL.out; omega
      obtain ⟨D, HDq⟩ : ∃ D, Hid (besideD z ls (spanS (sp.take k)) = D) := ⟨_, rfl⟩
      rw [HDq.out] at HD7 HLN
      have HOB : Hid (∀ q, u8.ownBlock = some q → w1.heap.size ≤ q ∧ q < wr.heap.size) := fun q hq => by
        have h := HD.out.1.lt q hq
        exact h
      refine wpAnyH_ready (rs := [8]) (by kernel_rfl) (by simp) ?_
      refine AllReadyH.cons rfl (fun K hK => ?_) AllReadyH.nil
      refine step_append_twok _ rfl (.tmp 28) (.tmp 35) 40 24 rfl i0 _ 32 32 Tryd.underlying40 hi hz0 hz1 hz2 rfl (by decide) w1.heap.size u8 D.length (digC D) rfl HD7.out.1 (Nat.le_trans HBE.out.size HBR.out.size) w6.heap.size 1 1 (cellsOf d) rfl (by rw [cellsOf_length, HDL.out]) HC7.out (cellsOf_one d) (by have := HLN.out; have := HOL.out; omega) (by decide) ?_
      intro v8 w8 hown8 hb8 hk8 hn8
      have HV8 : Hid (DgV w8 w1.heap.size v8 (D ++ [d])) := ⟨by rw [digC_app, List.length_append]; simpa [digC] using hown8, fun h => by simp at h, fun e he => by
        rcases List.mem_append.1 he with h | h
        · exact HD7.out.2.2 e h
        · rw [List.mem_singleton] at h; rw [h]; exact HDL.out⟩
      have HB8 : Hid (Below w1.heap.size w1 w8) := (HBE.out.trans (HBR.out.mono HBE.out.size)).trans hb8
      have HK8 : Hid (∀ q, q < W4.heap.size → q < w1.heap.size ∨ q = wr.heap.size → w8.heap[q]? = W4.heap[q]?) := fun q hq h => by
        rw [hk8 q (Nat.lt_of_lt_of_le hq HB7.out.size) (fun e => by have := HOB.out q e.symm; omega)]
        exact HB7.out.block q hq
      refine hK.out _ _ (HS.out _ HK8.out) (fun hHeld2 => ?_)
      clear hK K hown8 hb8 hk8 hn8
      simp only [Act.put, List.getElem_toArray, List.getElem_cons_zero, List.getElem_cons_succ, List.setIfInBounds_toArray, List.set_cons_zero, List.set_cons_succ]
      refine wpAnyH_take (i := 9) (v := ?_) rfl (by kernel_rfl) (by kernel_rfl) (by kernel_rfl) (fun _ _ _ h => h) (Or.inl ⟨by rfl, ?_⟩) (by assumption) ?_
      rotate_left
      · (intro w hSw; (try dsimp only at hSw); go_simp; try with_reducible rfl)
      simp only [Act.put, List.getElem_toArray, List.getElem_cons_zero, List.getElem_cons_succ, List.setIfInBounds_toArray, List.set_cons_zero, List.set_cons_succ]
      refine wpAnyH_done (by kernel_rfl) ?_ _
      clear hS hHeld2
      have HT : Hid (besideD z ls (spanS (sp.take (k + 1))) = D ++ [d]) := by
        show _ = _
        rw [← HDq.out, ← HDD.out, besideD, besideD, spanS, spanS, List.take_add_one, HP.out]
        simp
      rw [← HT.out] at HV8
      have hk1 : k + 1 ≤ L := by omega
      clear HOB
      go_wp2_with fail
      have hL2 := HOL.out
      rw [wrap64_small _ (by omega) (by omega)]
      refine ⟨⟨k + 1, rfl, hk1, HV8, HB8⟩, ?_⟩
      simp [intOf]
      omega
end Go.Proofs.YtaebpnednhkfhaaDoor
