/-
  What tree.Path of a tree answers: a contract over this translation. What tree.atRight answers: a contract over this translation. What tree.Check of a tree answers: a contract over this translation.
-/
import Derived.Test.YtecacjddggljgaaDoorPartCC
import Derived.Deep.MidRow
import Derived.Stop.BytesEq
namespace Go.Proofs.YtecacjddggljgaaDoor.Sm
open Go.RowKit
/-- The parts beside, as spans. -/
def spanS (l : List St) : List (Nat × Nat) := l.map fun p => (p.a, p.b)
theorem store_fn (w : World) (x y f : Value) (h1 : f.oneCell' = true) : Sem.run Tryd.prog (store ⟨w.heap.size, 2, none⟩ f) (w.alloc (.cells #[x, y, .nilFunc] 145)) = .ok () (w.alloc (.cells #[x, y, f] 145)) := by
  have h := heap_alloc_new w (.cells #[x, y, .nilFunc] 145)
  rw [run_store _ _ _ _ _ h1, cell_of_row _ _ 2 _ _ _ h, frozen_of_row _ _ 2 _ _ h, World.setCell_alloc_new]
  rfl
set_option maxHeartbeats 2000000 in
set_option maxRecDepth 100000 in
theorem path_wrong (z : Int) (ao : Option Addr) (n c : Nat) (x : Int) (w : World) (hno : ¬ (0 ≤ x ∧ x < n)) :
    Calls Tryd.prog 70 #[.agg #[.int .i64 z], .slice ao n c, .int .i64 x] w fun e w' => e = .returned (.tuple #[.slice none 0 0, .int .i64 1]) ∧ Below w.heap.size w w' := by
  by_cases h1 : x < 0
  · clear hno
    go_enter Tryd.func70, Tryd.ntmps70
    go_wp2
    go_ret2
    exact ⟨rfl, bel_alloc _ _⟩
  · have h1d : decide (x < 0) = false := decide_eq_false h1
    have h3 : (n : Int) ≤ x := by omega
    clear hno
    go_enter Tryd.func70, Tryd.ntmps70
    go_wp2
    go_ret2
    exact ⟨rfl, bel_alloc _ _⟩
set_option maxHeartbeats 4000000 in
set_option maxRecDepth 100000 in
theorem path_some (z : Int) (b off n c : Nat) (ls : List LV) (x : Nat) (w : World) (hL : LeavesV w (some ⟨b, off, none⟩) n c ls) (hn : n ≤ 1000) (hx : x < n) (hK : WW w 1 ks) (hz0 : 1 < w.heap.size) (hz : -9223372036854775808 ≤ z ∧ z ≤ 9223372036854775807) :
    Calls Tryd.prog 70 #[.agg #[.int .i64 z], .slice (some ⟨b, off, none⟩) n c, .int .i64 (x : Int)] w fun e w' => ∃ v, e = .returned (.tuple #[v, .int .i64 0]) ∧ DgV w' w.heap.size v (besideD z ls (spanS (upL n x))) ∧ Below w.heap.size w w' := by
  have HOI : Hid (∀ p ∈ upL n x, 0 ≤ p.a ∧ p.a < p.b ∧ p.b ≤ n) := upL_in hx (by omega)
  have HOL : Hid ((upL n x).length ≤ 64) := upL_len n x
  have HO : Hid (∀ W, Calls Tryd.prog 90 #[.int .i64 (n : Int), .int .i64 (x : Int)] W fun e w' => ∃ ao c, e = .returned (.slice ao (upL n x).length c) ∧ StV w' W.heap.size ao (upL n x) ∧ Below W.heap.size W w') := fun W => steps_any n x W hx (by omega)
  have HOF : Hid (∀ p : Nat × Nat, 0 ≤ p.1 ∧ p.1 < p.2 ∧ p.2 ≤ n → ∀ W, Calls Tryd.prog 75 #[.agg #[.int .i64 (p.1 : Int), .int .i64 (p.2 : Int)], .slice (some ⟨b, off, none⟩) n c] W fun e w' => e = .returned (.slice (some ⟨b, off + p.1, none⟩) (p.2 - p.1) (c - p.1)) ∧ Below W.heap.size W w') := fun p hp W => of_span p.1 p.2 b off n c W hp.2.1 hp.2.2 hL.2.1
  have HRT : Hid (∀ p : Nat × Nat, 0 ≤ p.1 ∧ p.1 < p.2 ∧ p.2 ≤ n → ∀ W, Below w.heap.size w W → Calls Tryd.prog 63 #[.agg #[.int .i64 z], .slice (some ⟨b, off + p.1, none⟩) (p.2 - p.1) (c - p.1)] W fun e w' => e = .returned (dv (rootD z (bytesL (partL ls p.1 p.2)))) ∧ Below W.heap.size W w') := fun p hp W hW => root_any z hz (p.2 - p.1) _ _ _ W ((hL.below hW (Nat.le_refl _)).part p.1 p.2 hp.2.1 hp.2.2) (by omega) (hK.below hW hz0) (Nat.lt_of_lt_of_le hz0 hW.size)
  have y1 : ¬ (x : Int) < 0 := by omega
  have y1d : decide ((x : Int) < 0) = false := decide_eq_false y1
  have y2 : ¬ (n : Int) ≤ (x : Int) := by omega
  have y2d : decide ((n : Int) ≤ (x : Int)) = false := decide_eq_false y2
  have y2n : decide (n ≤ x) = false := decide_eq_false (by omega)
  obtain ⟨sp, HSP⟩ : ∃ s, Hid (upL n x = s) := ⟨_, rfl⟩
  rw [HSP.out] at HOI HOL HO ⊢
  clear hL hn hx hK hz0 hz
  obtain ⟨i0, hi, hz0, hz1, hz2⟩ := info_parts info24
  go_enter Tryd.func70, Tryd.ntmps70
  go_wp2_with fail
  refine (HO.out _).mono ?_
  rintro e w1 ⟨aoS, cS, rfl, hs1, hb1⟩
  have HB1 : Hid (Below w.heap.size w w1) := (bel_alloc w _).trans (hb1.mono (by simp))
  have HC0 : Hid (w1.cell? ⟨w.heap.size, 0, none⟩ = some (.int .i64 z)) := by
    refine bel_cell2 hb1 (Nat.le_refl _) ?_
    rw [cell_of_row _ _ 0 _ _ _ (heap_alloc_new w _)]; rfl
  have HCS : Hid (StV w1 (w.heap.size + 1) aoS sp) := by show StV _ _ _ _; simpa using hs1
  obtain ⟨L, HL⟩ : ∃ L, Hid (sp.length = L) := ⟨_, rfl⟩
  rw [HL.out] at HOL ⊢
  clear hb1 hs1 y1 y1d y2 y2d y2n HO
  go_wp2_with fail
  go_loopw [8, 10, 24] (fun s8 _ s24 wr => ∃ k : Nat, s24 = .int .i64 k ∧ k ≤ L ∧ Hid (DgV wr w1.heap.size s8 (besideD z ls (spanS (sp.take k)))) ∧ Hid (Below w1.heap.size w1 wr)) (fun _ _ x _ => L - (intOf x).toNat)
  case atStart => exact ⟨0, rfl, Nat.zero_le _, dgv_nil _ _, Below.refl _ _⟩
  case round =>
    obtain ⟨k, rfl, hk, HD, HBE⟩ := hrel
    by_cases hlt : k < L
    case neg =>
      have hkz : ¬ (k : Int) < (L : Int) := by omega
      have HE : Hid (sp.take k = sp) := List.take_of_length_le (by have := HL.out; omega)
      rw [HE.out] at HD
      clear hk hlt
      go_wp2_with fail
      go_ret2
      exact ⟨_, rfl, HD.out.mono HB1.out.size, HB1.out.trans (HBE.out.mono HB1.out.size)⟩
    case pos =>
      have hkz : (k : Int) < (L : Int) := by omega
      obtain ⟨g, rfl, -, hcc⟩ := HCS.out (by have := HL.out; omega)
      obtain ⟨⟨p1, p2, rr⟩, HP⟩ : ∃ p, Hid (sp[k]? = some p) := ⟨_, List.getElem?_eq_getElem (by have := HL.out; omega)⟩
      obtain ⟨c0, c1, c2⟩ := hcc k _ HP.out
      have c0 := bel_cell2 HBE.out (Nat.le_refl _) c0
      have c1 := bel_cell2 HBE.out (Nat.le_refl _) c1
      have c2 := bel_cell2 HBE.out (Nat.le_refl _) c2
      have HPI : Hid (0 ≤ p1 ∧ p1 < p2 ∧ p2 ≤ n) := HOI.out _ (List.mem_of_getElem? HP.out)
      obtain ⟨fq, HFV⟩ : ∃ q, Hid (fnS rr = .func (.func q) #[] #[]) := ⟨_, rfl⟩
      dsimp only at c0 c1 c2
      rw [HFV.out] at c2
      have hst := store_fn wr (.int .i64 (p1 : Int)) (.int .i64 (p2 : Int)) (.func (.func fq) #[] #[]) rfl
      clear hcc hlt
      go_upto_region 7 with fail
      obtain ⟨W4, HW4⟩ : ∃ W, Hid (W = wr.alloc (.cells #[.int .i64 (p1 : Int), .int .i64 (p2 : Int), .func (.func fq) #[] #[]] 145)) := ⟨_, rfl⟩
      rw [← HW4.out]
      have HB4 : Hid (Below wr.heap.size wr W4) := by show Below _ _ _; rw [HW4.out]; exact bel_alloc _ _
      have HN4 : Hid (W4.heap[wr.heap.size]? = some (.cells #[.int .i64 (p1 : Int), .int .i64 (p2 : Int), .func (.func fq) #[] #[]] 145 (0, 0))) := by show _ = _; rw [HW4.out]; exact heap_alloc_new wr _
      have HZ4 : Hid (W4.heap.size = wr.heap.size + 1) := by show _ = _; rw [HW4.out]; simp
      have HS : Hid (∀ W : World, (∀ q, q < W4.heap.size → q < w1.heap.size ∨ q = wr.heap.size → W.heap[q]? = W4.heap[q]?) → W.cell? ⟨w.heap.size, 0, none⟩ = some (.int .i64 z) ∧ W.cell? ⟨wr.heap.size, 0, none⟩ = some (.int .i64 (p1 : Int)) ∧ W.cell? ⟨wr.heap.size, 1, none⟩ = some (.int .i64 (p2 : Int))) := fun W hW => by
        have q1 := World.cell?_of_block (w := W4) (w' := W) (a := ⟨w.heap.size, 0, none⟩) (hW w.heap.size (by rw [HZ4.out]; have := HBE.out.size; have := World.block_lt_of_cell? _ _ HC0.out; simp at this; omega) (Or.inl (World.block_lt_of_cell? _ _ HC0.out)))
        have q2 : W.heap[wr.heap.size]? = W4.heap[wr.heap.size]? := hW _ (by rw [HZ4.out]; omega) (Or.inr rfl)
        rw [HN4.out] at q2
        refine ⟨?_, ?_, ?_⟩
        · rw [q1]; exact bel_cell2 (HBE.out.trans (HB4.out.mono HBE.out.size)) (Nat.le_refl _) HC0.out
        · rw [cell_of_row _ _ 0 _ _ _ q2]; rfl
        · rw [cell_of_row _ _ 1 _ _ _ q2]; rfl
      have HSB : Hid (∀ W, Below W4.heap.size W4 W → W.cell? ⟨w.heap.size, 0, none⟩ = some (.int .i64 z) ∧ W.cell? ⟨wr.heap.size, 0, none⟩ = some (.int .i64 (p1 : Int)) ∧ W.cell? ⟨wr.heap.size, 1, none⟩ = some (.int .i64 (p2 : Int))) := fun W hW => HS.out W (fun q hq _ => hW.block q hq)
      have HBW : Hid (Below w.heap.size w W4) := HB1.out.trans ((HBE.out.trans (HB4.out.mono HBE.out.size)).mono HB1.out.size)
      obtain ⟨d, HDD⟩ : ∃ d, Hid (rootD z (bytesL (partL ls p1 p2)) = d) := ⟨_, rfl⟩
      have HOFp : Hid (∀ W, Calls Tryd.prog 75 #[.agg #[.int .i64 (p1 : Int), .int .i64 (p2 : Int)], .slice (some ⟨b, off, none⟩) n c] W fun e w' => e = .returned (.slice (some ⟨b, off + p1, none⟩) (p2 - p1) (c - p1)) ∧ Below W.heap.size W w') := HOF.out (p1, p2) HPI.out
      have HRTp : Hid (∀ W, Below w.heap.size w W → Calls Tryd.prog 63 #[.agg #[.int .i64 z], .slice (some ⟨b, off + p1, none⟩) (p2 - p1) (c - p1)] W fun e w' => e = .returned (dv d) ∧ Below W.heap.size W w') := by
        have h := HRT.out (p1, p2) HPI.out
        simp only [HDD.out] at h
        exact h
      have HDL : Hid (d.length = 32) := by show _ = _; rw [← HDD.out]; exact rootD_length _ _
      clear hst c0 c1 c2 HOF HRT HOI
      refine wp_region_held_drew (S := fun W => W.cell? ⟨w.heap.size, 0, none⟩ = some (.int .i64 z) ∧ W.cell? ⟨wr.heap.size, 0, none⟩ = some (.int .i64 (p1 : Int)) ∧ W.cell? ⟨wr.heap.size, 1, none⟩ = some (.int .i64 (p2 : Int))) (by kernel_rfl) (HSB.out _ (Below.drew (Below.refl _ _))) (fun hS => ?_)
      refine wpAnyH_take (i := 0) (v := ?_) rfl (by kernel_rfl) (by kernel_rfl) (by kernel_rfl) (fun _ _ _ h => h) (Or.inl ⟨by rfl, ?_⟩) (by assumption) ?_
      rotate_left
      · (intro w hSw; (try dsimp only at hSw); go_simp; try with_reducible rfl)
      simp only [Act.put, List.getElem_toArray, List.getElem_cons_zero, List.setIfInBounds_toArray, List.set_cons_zero, List.set_cons_succ]
      refine wpAnyH_take (i := 1) (v := ?_) rfl (by kernel_rfl) (by kernel_rfl) (by kernel_rfl) (fun _ _ _ h => h) (Or.inl ⟨by rfl, ?_⟩) (by assumption) ?_
      rotate_left
      · (intro w hSw; (try dsimp only at hSw); go_simp; try with_reducible rfl)
      simp only [Act.put, List.getElem_toArray, List.getElem_cons_zero, List.getElem_cons_succ, List.setIfInBounds_toArray, List.set_cons_zero, List.set_cons_succ]
      refine wpAnyH_take (i := 2) (v := ?_) rfl (by kernel_rfl) (by kernel_rfl) (by kernel_rfl) (fun _ _ _ h => h) (Or.inl ⟨by rfl, ?_⟩) (by assumption) ?_
      rotate_left
      · (intro w hSw; (try dsimp only at hSw); go_simp; try with_reducible rfl)
      simp only [Act.put, List.getElem_toArray, List.getElem_cons_zero, List.getElem_cons_succ, List.setIfInBounds_toArray, List.set_cons_zero, List.set_cons_succ]
      refine wpAnyH_take (i := 3) (v := ?_) rfl (by kernel_rfl) (by kernel_rfl) (by kernel_rfl) (fun _ _ _ h => h) (Or.inl ⟨by rfl, ?_⟩) (by assumption) ?_
      rotate_left
      · (intro w hSw; (try dsimp only at hSw); go_simp; try with_reducible rfl)
      simp only [Act.put, List.getElem_toArray, List.getElem_cons_zero, List.getElem_cons_succ, List.setIfInBounds_toArray, List.set_cons_zero, List.set_cons_succ]
      refine wpAnyH_take (i := 4) (v := ?_) rfl (by kernel_rfl) (by kernel_rfl) (by kernel_rfl) (fun _ _ _ h => h) (Or.inl ⟨by rfl, ?_⟩) (by assumption) ?_
      rotate_left
      · (intro w hSw; (try dsimp only at hSw); go_simp; try with_reducible rfl)
      simp only [Act.put, List.getElem_toArray, List.getElem_cons_zero, List.getElem_cons_succ, List.setIfInBounds_toArray, List.set_cons_zero, List.set_cons_succ]
      refine wpAnyH_ready (rs := [5]) (by kernel_rfl) (by simp) ?_
      refine AllReadyH.cons rfl (fun K hK => ?_) AllReadyH.nil
      go_simp
      refine (HOFp.out _).mono ?_
      rintro e w5 ⟨rfl, hb5⟩
      have HB5 : Hid (Below W4.heap.size W4 w5) := (Below.drew (Below.refl _ _)).trans hb5
      go_wp2_with fail
      refine hK.out _ _ (HSB.out _ HB5.out) (fun hHeld2 => ?_)
      clear hK K hb5
      refine wpAnyH_ready (rs := [6]) (by kernel_rfl) (by simp) ?_
      refine AllReadyH.cons rfl (fun K hK => ?_) AllReadyH.nil
      go_simp
      refine (HRTp.out _ (HBW.out.trans (HB5.out.mono HBW.out.size))).mono ?_
      rintro e w6 ⟨rfl, hb6⟩
      have HB6 : Hid (Below W4.heap.size W4 w6) := HB5.out.trans (hb6.mono HB5.out.size)
      go_wp2_with fail
      refine hK.out _ _ (HSB.out _ HB6.out) (fun hHeld2 => ?_)
      clear hK K hb6
      refine wpAnyH_ready (rs := [7]) (by kernel_rfl) (by simp) ?_
      refine AllReadyH.cons rfl (fun K hK => ?_) AllReadyH.nil
      refine step_build_dig _ rfl (.tmp 34) rfl d rfl HDL.out ?_
      obtain ⟨w7, HW7⟩ : ∃ W, Hid (W = w6.alloc (.cells (cellsOf d).toArray 46)) := ⟨_, rfl⟩
      have HC7 : Hid (∀ j u, (cellsOf d)[j]? = some u → w7.cell? ((⟨w6.heap.size, 0, none⟩ : Addr).add j) = some u) := by have h := dig_cells w6 d; rw [← HW7.out] at h; exact h
      have HB67 : Hid (Below w6.heap.size w6 w7) := by show Below _ _ _; rw [HW7.out]; exact bel_alloc _ _
      rw [← HW7.out]
      have HB7 : Hid (Below W4.heap.size W4 w7) := HB6.out.trans (HB67.out.mono HB6.out.size)
      refine hK.out _ _ (HSB.out _ HB7.out) (fun hHeld2 => ?_)
      clear hK K
      simp only [Act.put, List.getElem_toArray, List.getElem_cons_zero, List.getElem_cons_succ, List.setIfInBounds_toArray, List.set_cons_zero, List.set_cons_succ]
      have HBR : Hid (Below wr.heap.size wr w7) := HB4.out.trans (HB7.out.mono HB4.out.size)
      have HD7 : Hid (DgV w7 w1.heap.size u8 (besideD z ls (spanS (sp.take k)))) := HD.out.below HBR.out (Nat.le_refl _)
      have HLN : Hid ((besideD z ls (spanS (sp.take k))).length = k) := by show _ = _; rw [besideD, List.length_map, spanS, List.length_map, List.length_take]; have := HL.out; omega
      obtain ⟨D, HDq⟩ : ∃ D, Hid (besideD z ls (spanS (sp.take k)) = D) := ⟨_, rfl⟩
      rw [HDq.out] at HD7 HLN
      have HOB : Hid (∀ q, u8.ownBlock = some q → w1.heap.size ≤ q ∧ q < wr.heap.size) := fun q hq => by
        have h := HD.out.1.lt q hq
        exact h
      refine wpAnyH_ready (rs := [8]) (by kernel_rfl) (by simp) ?_
      refine AllReadyH.cons rfl (fun K hK => ?_) AllReadyH.nil
      refine step_append_twok _ rfl (.tmp 28) (.tmp 35) 28 46 rfl i0 _ 32 32 Tryd.underlying28 hi hz0 hz1 hz2 rfl (by decide) w1.heap.size u8 D.length (digC D) rfl HD7.out.1 (Nat.le_trans HBE.out.size HBR.out.size) w6.heap.size 1 1 (cellsOf d) rfl (by rw [cellsOf_length, HDL.out]) HC7.out (cellsOf_one d) (by have := HLN.out; have := HOL.out; omega) (by decide) ?_
      intro v8 w8 hown8 hb8 hk8 hn8
      have HV8 : Hid (DgV w8 w1.heap.size v8 (D ++ [d])) := ⟨by rw [digC_app, List.length_append]; simpa [digC] using hown8, fun h => by simp at h, fun e he => by
        rcases List.mem_append.1 he with h | h
        · exact HD7.out.2.2 e h
        · rw [List.mem_singleton] at h; rw [h]; exact HDL.out⟩
      have HB8 : Hid (Below w1.heap.size w1 w8) := (HBE.out.trans (HBR.out.mono HBE.out.size)).trans hb8
      have HK8 : Hid (∀ q, q < W4.heap.size → q < w1.heap.size ∨ q = wr.heap.size → w8.heap[q]? = W4.heap[q]?) := fun q hq h => by
        rw [hk8 q (Nat.lt_of_lt_of_le hq HB7.out.size) (fun e => by have := HOB.out q e.symm; omega)]
        exact HB7.out.block q hq
      refine hK.out _ _ (HS.out _ HK8.out) (fun hHeld2 => ?_)
      clear hK K hown8 hb8 hk8 hn8
      simp only [Act.put, List.getElem_toArray, List.getElem_cons_zero, List.getElem_cons_succ, List.setIfInBounds_toArray, List.set_cons_zero, List.set_cons_succ]
      refine wpAnyH_take (i := 9) (v := ?_) rfl (by kernel_rfl) (by kernel_rfl) (by kernel_rfl) (fun _ _ _ h => h) (Or.inl ⟨by rfl, ?_⟩) (by assumption) ?_
      rotate_left
      · (intro w hSw; (try dsimp only at hSw); go_simp; try with_reducible rfl)
      simp only [Act.put, List.getElem_toArray, List.getElem_cons_zero, List.getElem_cons_succ, List.setIfInBounds_toArray, List.set_cons_zero, List.set_cons_succ]
      refine wpAnyH_done (by kernel_rfl) ?_ _
      clear hS hHeld2
      have HT : Hid (besideD z ls (spanS (sp.take (k + 1))) = D ++ [d]) := by
        show _ = _
        rw [← HDq.out, ← HDD.out, besideD, besideD, spanS, spanS, List.take_add_one, HP.out]
        simp
      rw [← HT.out] at HV8
      have hk1 : k + 1 ≤ L := by omega
      clear HOB
      go_wp2_with fail
      have hL2 := HOL.out
      rw [wrap64_small _ (by omega) (by omega)]
      refine ⟨⟨k + 1, rfl, hk1, HV8, HB8⟩, ?_⟩
      simp [intOf]
      omega
end Go.Proofs.YtecacjddggljgaaDoor.Sm
namespace Go.Proofs.YtecacjddggljgaaDoor.Sm
open Go.RowKit
set_option maxHeartbeats 4000000 in
set_option maxRecDepth 100000 in
theorem right_any (z : Int) (l r : List UInt8) (w : World) (hl : l.length = 32) (hr : r.length = 32) (hK : WW w 1 ks) (hz0 : 1 < w.heap.size) (hz : -9223372036854775808 ≤ z ∧ z ≤ 9223372036854775807) :
    Calls Tryd.prog 119 #[.agg #[.int .i64 z], dv l, dv r] w fun e w' => e = .returned (dv (nodeD z r l)) ∧ Below w.heap.size w w' := by
  have HN : Hid (∀ W, Below w.heap.size w W → Calls Tryd.prog 87 #[.agg #[.int .i64 z], .agg (cellsOf r).toArray, .agg (cellsOf l).toArray] W fun e w' => e = .returned (dv (nodeD z r l)) ∧ Below W.heap.size W w') := fun W hW => node_any z r l W hr hl (hK.below hW hz0) (Nat.lt_of_lt_of_le hz0 hW.size) hz
  have hdl := nodeD_length z r l
  obtain ⟨d, HD⟩ : ∃ d, Hid (nodeD z r l = d) := ⟨_, rfl⟩
  rw [HD.out] at hdl HN ⊢
  have HDL : Hid (d.length = 32) := hdl
  have HIL : Hid ((Tryd.prog.info? 46).map (·.size) = some (cellsOf l).toArray.size) := by show _ = _; rw [size24, dig_size hl]
  have HIR : Hid ((Tryd.prog.info? 46).map (·.size) = some (cellsOf r).toArray.size) := by show _ = _; rw [size24, dig_size hr]
  clear hK hdl hl hr hz0 hz
  unfold dv
  obtain ⟨cl, HCL⟩ : ∃ c, Hid ((cellsOf l).toArray = c) := ⟨_, rfl⟩
  obtain ⟨cr, HCR⟩ : ∃ c, Hid ((cellsOf r).toArray = c) := ⟨_, rfl⟩
  rw [HCL.out] at HIL HN ⊢
  rw [HCR.out] at HIR HN ⊢
  go_enter Tryd.func119, Tryd.ntmps119
  go_upto_region 1 with fail
  obtain ⟨W0, HW0⟩ : ∃ W, Hid (W = (((w.alloc (Obj.cells #[Value.int IntKind.i64 z] 26)).alloc (Obj.cells cl 46)).alloc (Obj.cells cr 46)).alloc (Obj.cells #[Value.int IntKind.u8 0, Value.int IntKind.u8 0, Value.int IntKind.u8 0, Value.int IntKind.u8 0, Value.int IntKind.u8 0, Value.int IntKind.u8 0, Value.int IntKind.u8 0, Value.int IntKind.u8 0, Value.int IntKind.u8 0, Value.int IntKind.u8 0, Value.int IntKind.u8 0, Value.int IntKind.u8 0, Value.int IntKind.u8 0, Value.int IntKind.u8 0, Value.int IntKind.u8 0, Value.int IntKind.u8 0, Value.int IntKind.u8 0, Value.int IntKind.u8 0, Value.int IntKind.u8 0, Value.int IntKind.u8 0, Value.int IntKind.u8 0, Value.int IntKind.u8 0, Value.int IntKind.u8 0, Value.int IntKind.u8 0, Value.int IntKind.u8 0, Value.int IntKind.u8 0, Value.int IntKind.u8 0, Value.int IntKind.u8 0, Value.int IntKind.u8 0, Value.int IntKind.u8 0, Value.int IntKind.u8 0, Value.int IntKind.u8 0] 46)) := ⟨_, rfl⟩
  have HF := frame4 w (Obj.cells #[Value.int IntKind.i64 z] 26) (Obj.cells cl 46) (Obj.cells cr 46) #[Value.int IntKind.u8 0, Value.int IntKind.u8 0, Value.int IntKind.u8 0, Value.int IntKind.u8 0, Value.int IntKind.u8 0, Value.int IntKind.u8 0, Value.int IntKind.u8 0, Value.int IntKind.u8 0, Value.int IntKind.u8 0, Value.int IntKind.u8 0, Value.int IntKind.u8 0, Value.int IntKind.u8 0, Value.int IntKind.u8 0, Value.int IntKind.u8 0, Value.int IntKind.u8 0, Value.int IntKind.u8 0, Value.int IntKind.u8 0, Value.int IntKind.u8 0, Value.int IntKind.u8 0, Value.int IntKind.u8 0, Value.int IntKind.u8 0, Value.int IntKind.u8 0, Value.int IntKind.u8 0, Value.int IntKind.u8 0, Value.int IntKind.u8 0, Value.int IntKind.u8 0, Value.int IntKind.u8 0, Value.int IntKind.u8 0, Value.int IntKind.u8 0, Value.int IntKind.u8 0, Value.int IntKind.u8 0, Value.int IntKind.u8 0] 46 W0 HW0.out
  rw [← HW0.out]
  have HFH : Hid _ := HF
  have c0 : W0.cell? ⟨w.heap.size, 0, none⟩ = some (.int .i64 z) := by rw [cell_of_row W0 _ 0 _ _ _ HF.1]; rfl
  clear HF HW0
  go_wp2_with (first | (refine wpList_load_row rfl 46 (.tmp 5) rfl (w.heap.size + 2) rfl 46 cr (0, 0) _ HFH.out.2.2.1 Tryd.underlying46 rfl HIR.out ?_) | (refine wpList_load_row rfl 46 (.tmp 4) rfl (w.heap.size + 1) rfl 46 cl (0, 0) _ HFH.out.2.1 Tryd.underlying46 rfl HIL.out ?_))
  refine (HN.out _ HFH.out.2.2.2.2.1).mono ?_
  rintro e w1 ⟨rfl, hb1⟩
  have HRES : Hid (w1.heap[w.heap.size + 3]? = some (.cells #[Value.int IntKind.u8 0, Value.int IntKind.u8 0, Value.int IntKind.u8 0, Value.int IntKind.u8 0, Value.int IntKind.u8 0, Value.int IntKind.u8 0, Value.int IntKind.u8 0, Value.int IntKind.u8 0, Value.int IntKind.u8 0, Value.int IntKind.u8 0, Value.int IntKind.u8 0, Value.int IntKind.u8 0, Value.int IntKind.u8 0, Value.int IntKind.u8 0, Value.int IntKind.u8 0, Value.int IntKind.u8 0, Value.int IntKind.u8 0, Value.int IntKind.u8 0, Value.int IntKind.u8 0, Value.int IntKind.u8 0, Value.int IntKind.u8 0, Value.int IntKind.u8 0, Value.int IntKind.u8 0, Value.int IntKind.u8 0, Value.int IntKind.u8 0, Value.int IntKind.u8 0, Value.int IntKind.u8 0, Value.int IntKind.u8 0, Value.int IntKind.u8 0, Value.int IntKind.u8 0, Value.int IntKind.u8 0, Value.int IntKind.u8 0] 46 (0, 0))) := by
    show _ = _
    rw [hb1.block _ (by rw [HFH.out.2.2.2.2.2]; omega)]; exact HFH.out.2.2.2.1
  have HB : Hid (Below w.heap.size w w1) := HFH.out.2.2.2.2.1.trans (hb1.mono (by rw [HFH.out.2.2.2.2.2]; omega))
  clear hb1 c0
  unfold dv
  go_wp2_with (refine wpList_store_row rfl 46 (.tmp 6) (.tmp 10) rfl (w.heap.size + 3) (cellsOf d).toArray rfl rfl 46 _ HRES.out (by rw [size24, dig_size HDL.out]) (by rw [dig_size HDL.out]; rfl) (cells_all _) ?_)
  refine bodyPost_ret (results_cell_row rfl _ _ (w.heap.size + 3) 46 (cellsOf d).toArray (0, 0) _ rfl (setRow_heap _ _ _ _ _ _ HRES.out) Tryd.underlying46 rfl (by rw [size24, dig_size HDL.out])) rfl ?_
  exact ⟨rfl, below_row HB.out (by omega) _⟩
end Go.Proofs.YtecacjddggljgaaDoor.Sm
namespace Go.Proofs.YtecacjddggljgaaDoor.Sm
open Go.RowKit
/-- A path that is handed over. -/
def PathV (w : World) (ao : Option Addr) (ds : List (List UInt8)) : Prop := (∀ d ∈ ds, d.length = 32) ∧ (0 < ds.length → ∃ b off, ao = some ⟨b, off, none⟩ ∧ ∀ k d, ds[k]? = some d → w.rangeAt b (off + k * 32) (cellsOf d))
theorem PathV.below {w w' : World} {B : Nat} {ao : Option Addr} {ds : List (List UInt8)} (h : PathV w ao ds) (hb : Below B w w') (hB : w.heap.size ≤ B) : PathV w' ao ds :=
  ⟨h.1, fun hp => by obtain ⟨b, off, h1, h2⟩ := h.2 hp; exact ⟨b, off, h1, fun k d hk => range_bel (h2 k d hk) hb hB⟩⟩
/-- One step upwards. -/
def joinS (z : Int) (up : List UInt8) (s : St × List UInt8) : List UInt8 := if s.1.r then nodeD z s.2 up else nodeD z up s.2
def climbD (z : Int) (up : List UInt8) (l : List St) (ds : List (List UInt8)) : List UInt8 := (l.zip ds).foldl (joinS z) up
theorem joinS_len (z : Int) (up : List UInt8) (s : St × List UInt8) : (joinS z up s).length = 32 := by unfold joinS; split <;> exact nodeD_length _ _ _
theorem climb_snoc (z : Int) (up : List UInt8) (l : List St) (ds : List (List UInt8)) (k : Nat) (p : St) (d : List UInt8) (hp : l[k]? = some p) (hd : ds[k]? = some d) : climbD z up (l.take (k + 1)) (ds.take (k + 1)) = joinS z (climbD z up (l.take k) (ds.take k)) (p, d) := by
  unfold climbD
  have hl := (List.getElem?_eq_some_iff.1 hp).1
  have hl2 := (List.getElem?_eq_some_iff.1 hd).1
  rw [List.take_add_one, List.take_add_one, hp, hd, List.zip_append (by simp; omega)]
  simp
theorem eq_dig (x y : List UInt8) (hx : x.length = 32) (hy : y.length = 32) (w : World) : (binOp .eql 46 (.agg (cellsOf x).toArray) (.agg (cellsOf y).toArray)).run Tryd.prog w = .ok (.bool (x == y)) w :=
  run_eql_bytes w 46 5 32 Tryd.underlying46 Tryd.underlying5 sizeOf5 x y hx hy
theorem equalIn_dig (x y : List UInt8) (hx : x.length = 32) (hy : y.length = 32) (w : World) : (Op.equalIn 10000 46 (.agg (cellsOf x).toArray) (.agg (cellsOf y).toArray)).run Tryd.prog w = .ok (x == y) w :=
  run_equalIn_bytes w 9998 46 5 32 Tryd.underlying46 Tryd.underlying5 sizeOf5 x y hx hy
set_option maxHeartbeats 2000000 in
set_option maxRecDepth 100000 in
theorem check_wrong (z : Int) (root : List UInt8) (n x : Int) (lf pa : Value) (w : World) (hno : ¬ (0 ≤ x ∧ x < n)) :
    Calls Tryd.prog 65 #[.agg #[.int .i64 z], dv root, .int .i64 n, .int .i64 x, lf, pa] w fun e w' => e = .returned (.bool false) ∧ Below w.heap.size w w' := by
  unfold dv
  obtain ⟨cr, HCR⟩ : ∃ c, Hid ((cellsOf root).toArray = c) := ⟨_, rfl⟩
  rw [HCR.out]
  by_cases h1 : x < 0
  · clear hno
    go_enter Tryd.func65, Tryd.ntmps65
    go_wp2
    go_ret
    exact ⟨rfl, (bel_alloc _ _).trans ((bel_alloc _ _).mono (by simp))⟩
  · have h1d : decide (x < 0) = false := decide_eq_false h1
    have h3 : n ≤ x := by omega
    clear hno
    go_enter Tryd.func65, Tryd.ntmps65
    go_wp2
    go_ret
    exact ⟨rfl, (bel_alloc _ _).trans ((bel_alloc _ _).mono (by simp))⟩
set_option maxHeartbeats 4000000 in
set_option maxRecDepth 100000 in
theorem check_len (z : Int) (root : List UInt8) (n x : Nat) (lf : Value) (ao : Option Addr) (m c : Nat) (w : World) (hx : x < n) (hn : n ≤ 9223372036854775807) (hne : m ≠ (upL n x).length) :
    Calls Tryd.prog 65 #[.agg #[.int .i64 z], dv root, .int .i64 (n : Int), .int .i64 (x : Int), lf, .slice ao m c] w fun e w' => e = .returned (.bool false) ∧ Below w.heap.size w w' := by
  unfold dv
  obtain ⟨cr, HCR⟩ : ∃ c, Hid ((cellsOf root).toArray = c) := ⟨_, rfl⟩
  rw [HCR.out]
  have HO : Hid (∀ W, Calls Tryd.prog 90 #[.int .i64 (n : Int), .int .i64 (x : Int)] W fun e w' => ∃ ao c, e = .returned (.slice ao (upL n x).length c) ∧ StV w' W.heap.size ao (upL n x) ∧ Below W.heap.size W w') := fun W => steps_any n x W hx hn
  obtain ⟨L, HL⟩ : ∃ L, Hid ((upL n x).length = L) := ⟨_, rfl⟩
  rw [HL.out] at HO hne
  have y1 : ¬ (x : Int) < 0 := by omega
  have y1d : decide ((x : Int) < 0) = false := decide_eq_false y1
  have y2 : ¬ (n : Int) ≤ (x : Int) := by omega
  have y2d : decide ((n : Int) ≤ (x : Int)) = false := decide_eq_false y2
  have y2n : decide (n ≤ x) = false := decide_eq_false (by omega)
  have y3 : ((m : Int) == (L : Int)) = false := by simp; omega
  clear hx hn
  go_enter Tryd.func65, Tryd.ntmps65
  go_wp2_with fail
  refine (HO.out _).mono ?_
  rintro e w1 ⟨aoS, cS, rfl, hs1, hb1⟩
  have HB1 : Hid (Below w.heap.size w w1) := ((bel_alloc w _).trans ((bel_alloc _ _).mono (by simp))).trans (hb1.mono (by simp; omega))
  clear hs1 hb1 y1 y1d y2 y2d y2n
  go_wp2_with fail
  go_ret
  exact ⟨rfl, HB1.out⟩
set_option maxHeartbeats 4000000 in
set_option maxRecDepth 100000 in
theorem check_some (z : Int) (root : List UInt8) (n x : Nat) (lo : Option Addr) (ln lc : Nat) (bs : List UInt8) (ao : Option Addr) (L c : Nat) (ds : List (List UInt8)) (w : World) (hroot : root.length = 32) (hx : x < n) (hn : n ≤ 9223372036854775807) (hlen : ds.length = L) (hL : L = (upL n x).length) (hLc : L ≤ c) (hc : c ≤ 9223372036854775807) (hP : PathV w ao ds)
    (hb : Bytes w lo ln bs) (h0 : lo = none → lc = 0) (hln : ln ≤ 140737488355000) (hK : WW w 1 ks) (hz0 : 1 < w.heap.size) (hz : -9223372036854775808 ≤ z ∧ z ≤ 9223372036854775807) :
    Calls Tryd.prog 65 #[.agg #[.int .i64 z], dv root, .int .i64 (n : Int), .int .i64 (x : Int), .slice lo ln lc, .slice ao L c] w fun e w' => e = .returned (.bool (climbD z (leafD z bs) (upL n x) ds == root)) ∧ Below w.heap.size w w' := by
  have HO : Hid (∀ W, Calls Tryd.prog 90 #[.int .i64 (n : Int), .int .i64 (x : Int)] W fun e w' => ∃ ao c, e = .returned (.slice ao (upL n x).length c) ∧ StV w' W.heap.size ao (upL n x) ∧ Below W.heap.size W w') := fun W => steps_any n x W hx hn
  have HLF : Hid (∀ W, Below w.heap.size w W → Calls Tryd.prog 85 #[.agg #[.int .i64 z], .slice lo ln lc] W fun e w' => e = .returned (dv (leafD z bs)) ∧ Below W.heap.size W w') := fun W hW => leaf_any z lo ln lc bs W (bytes_kept hb hW (Nat.le_refl _)) h0 hln (hK.below hW hz0) (Nat.lt_of_lt_of_le hz0 hW.size) hz
  have HJN : Hid (∀ (r : Bool) (u d : List UInt8), u.length = 32 → d.length = 32 → ∀ W, Below w.heap.size w W → Calls Tryd.prog (if r then 119 else 87) #[.agg #[.int .i64 z], .agg (cellsOf u).toArray, .agg (cellsOf d).toArray] W fun e w' => e = .returned (dv (joinS z u (⟨0, 0, r⟩, d))) ∧ Below W.heap.size W w') := fun r u d hu hd W hW => by
    cases r
    · exact node_any z u d W hu hd (hK.below hW hz0) (Nat.lt_of_lt_of_le hz0 hW.size) hz
    · exact right_any z u d W hu hd (hK.below hW hz0) (Nat.lt_of_lt_of_le hz0 hW.size) hz
  have HPV : Hid (PathV w ao ds) := hP
  have HRT : Hid (root.length = 32) := hroot
  have HDS : Hid (ds.length = L) := hlen
  have HLE : Hid ((leafD z bs).length = 32) := leafD_length z bs
  obtain ⟨u0, HU0⟩ : ∃ u, Hid (leafD z bs = u) := ⟨_, rfl⟩
  rw [HU0.out] at HLE HLF ⊢
  obtain ⟨sp, HSP⟩ : ∃ s, Hid (upL n x = s) := ⟨_, rfl⟩
  have HL64 : Hid (L ≤ 64) := by show _ ≤ _; rw [hL]; exact upL_len n x
  rw [HSP.out] at HO hL ⊢
  have HL : Hid (sp.length = L) := hL.symm
  rw [HL.out] at HO
  have HCC : Hid (L ≤ c ∧ c ≤ 9223372036854775807) := ⟨hLc, hc⟩
  have y1 : ¬ (x : Int) < 0 := by omega
  have y1d : decide ((x : Int) < 0) = false := decide_eq_false y1
  have y2 : ¬ (n : Int) ≤ (x : Int) := by omega
  have y2d : decide ((n : Int) ≤ (x : Int)) = false := decide_eq_false y2
  have y2n : decide (n ≤ x) = false := decide_eq_false (by omega)
  have HIR : Hid ((Tryd.prog.info? 46).map (·.size) = some (cellsOf root).toArray.size) := by show _ = _; rw [size24, dig_size hroot]
  unfold dv
  obtain ⟨cr, HCR⟩ : ∃ c, Hid ((cellsOf root).toArray = c) := ⟨_, rfl⟩
  rw [HCR.out] at HIR ⊢
  clear hroot hx hn hlen hL hLc hc hP hb h0 hln hK hz0 hz
  go_enter Tryd.func65, Tryd.ntmps65
  go_wp2_with fail
  have HF0 := frame2 w (Obj.cells #[Value.int IntKind.i64 z] 26) cr 46
  obtain ⟨W0, HW0⟩ : ∃ W, Hid ((w.alloc (Obj.cells #[Value.int IntKind.i64 z] 26)).alloc (Obj.cells cr 46) = W) := ⟨_, rfl⟩
  rw [HW0.out] at HF0 ⊢
  have HFH : Hid _ := HF0
  clear HF0 HW0
  refine (HO.out _).mono ?_
  rintro e w1 ⟨aoS, cS, rfl, hs1, hb1⟩
  have HB1 : Hid (Below W0.heap.size W0 w1) := hb1
  have HST : Hid (StV w1 W0.heap.size aoS sp) := hs1
  have HBW1 : Hid (Below w.heap.size w w1) := HFH.out.2.2.1.trans (hb1.mono (by rw [HFH.out.2.2.2]; omega))
  have c0 : w1.cell? ⟨w.heap.size, 0, none⟩ = some (.int .i64 z) := by
    refine bel_cell2 hb1 (Nat.le_refl _) ?_
    rw [cell_of_row W0 _ 0 _ _ _ HFH.out.1]; rfl
  clear hs1 hb1 y1 y1d y2 y2d y2n HO
  go_wp2_with fail
  refine (HLF.out _ HBW1.out).mono ?_
  rintro e w2 ⟨rfl, hb2⟩
  have HB2 : Hid (Below w1.heap.size w1 w2) := hb2
  clear hb2 c0 HLF
  unfold dv
  have HN2 : Hid ((w2.alloc (.cells #[Value.int IntKind.u8 0, Value.int IntKind.u8 0, Value.int IntKind.u8 0, Value.int IntKind.u8 0, Value.int IntKind.u8 0, Value.int IntKind.u8 0, Value.int IntKind.u8 0, Value.int IntKind.u8 0, Value.int IntKind.u8 0, Value.int IntKind.u8 0, Value.int IntKind.u8 0, Value.int IntKind.u8 0, Value.int IntKind.u8 0, Value.int IntKind.u8 0, Value.int IntKind.u8 0, Value.int IntKind.u8 0, Value.int IntKind.u8 0, Value.int IntKind.u8 0, Value.int IntKind.u8 0, Value.int IntKind.u8 0, Value.int IntKind.u8 0, Value.int IntKind.u8 0, Value.int IntKind.u8 0, Value.int IntKind.u8 0, Value.int IntKind.u8 0, Value.int IntKind.u8 0, Value.int IntKind.u8 0, Value.int IntKind.u8 0, Value.int IntKind.u8 0, Value.int IntKind.u8 0, Value.int IntKind.u8 0, Value.int IntKind.u8 0] 46)).heap[w2.heap.size]? = some (.cells #[Value.int IntKind.u8 0, Value.int IntKind.u8 0, Value.int IntKind.u8 0, Value.int IntKind.u8 0, Value.int IntKind.u8 0, Value.int IntKind.u8 0, Value.int IntKind.u8 0, Value.int IntKind.u8 0, Value.int IntKind.u8 0, Value.int IntKind.u8 0, Value.int IntKind.u8 0, Value.int IntKind.u8 0, Value.int IntKind.u8 0, Value.int IntKind.u8 0, Value.int IntKind.u8 0, Value.int IntKind.u8 0, Value.int IntKind.u8 0, Value.int IntKind.u8 0, Value.int IntKind.u8 0, Value.int IntKind.u8 0, Value.int IntKind.u8 0, Value.int IntKind.u8 0, Value.int IntKind.u8 0, Value.int IntKind.u8 0, Value.int IntKind.u8 0, Value.int IntKind.u8 0, Value.int IntKind.u8 0, Value.int IntKind.u8 0, Value.int IntKind.u8 0, Value.int IntKind.u8 0, Value.int IntKind.u8 0, Value.int IntKind.u8 0] 46 (0, 0))) := heap_alloc_new w2 _
  go_wp2_with (refine wpList_store_row rfl 46 (.tmp 14) (.tmp 34) rfl w2.heap.size (cellsOf u0).toArray rfl rfl 46 _ HN2.out (by rw [size24, dig_size HLE.out]) (by rw [dig_size HLE.out]; rfl) (cells_all _) ?_)
  have HRU := setRow_heap _ _ _ (cellsOf u0).toArray _ _ HN2.out
  have HBU : Below w2.heap.size w2 ((w2.alloc (.cells #[Value.int IntKind.u8 0, Value.int IntKind.u8 0, Value.int IntKind.u8 0, Value.int IntKind.u8 0, Value.int IntKind.u8 0, Value.int IntKind.u8 0, Value.int IntKind.u8 0, Value.int IntKind.u8 0, Value.int IntKind.u8 0, Value.int IntKind.u8 0, Value.int IntKind.u8 0, Value.int IntKind.u8 0, Value.int IntKind.u8 0, Value.int IntKind.u8 0, Value.int IntKind.u8 0, Value.int IntKind.u8 0, Value.int IntKind.u8 0, Value.int IntKind.u8 0, Value.int IntKind.u8 0, Value.int IntKind.u8 0, Value.int IntKind.u8 0, Value.int IntKind.u8 0, Value.int IntKind.u8 0, Value.int IntKind.u8 0, Value.int IntKind.u8 0, Value.int IntKind.u8 0, Value.int IntKind.u8 0, Value.int IntKind.u8 0, Value.int IntKind.u8 0, Value.int IntKind.u8 0, Value.int IntKind.u8 0, Value.int IntKind.u8 0] 46)).setRow w2.heap.size (cellsOf u0).toArray) := below_row (bel_alloc w2 _) (Nat.le_refl _) _
  obtain ⟨wU, HWU⟩ : ∃ W, Hid ((w2.alloc (.cells #[Value.int IntKind.u8 0, Value.int IntKind.u8 0, Value.int IntKind.u8 0, Value.int IntKind.u8 0, Value.int IntKind.u8 0, Value.int IntKind.u8 0, Value.int IntKind.u8 0, Value.int IntKind.u8 0, Value.int IntKind.u8 0, Value.int IntKind.u8 0, Value.int IntKind.u8 0, Value.int IntKind.u8 0, Value.int IntKind.u8 0, Value.int IntKind.u8 0, Value.int IntKind.u8 0, Value.int IntKind.u8 0, Value.int IntKind.u8 0, Value.int IntKind.u8 0, Value.int IntKind.u8 0, Value.int IntKind.u8 0, Value.int IntKind.u8 0, Value.int IntKind.u8 0, Value.int IntKind.u8 0, Value.int IntKind.u8 0, Value.int IntKind.u8 0, Value.int IntKind.u8 0, Value.int IntKind.u8 0, Value.int IntKind.u8 0, Value.int IntKind.u8 0, Value.int IntKind.u8 0, Value.int IntKind.u8 0, Value.int IntKind.u8 0] 46)).setRow w2.heap.size (cellsOf u0).toArray = W) := ⟨_, rfl⟩
  rw [HWU.out] at HRU HBU ⊢
  have HRU : Hid _ := HRU
  have HBU : Hid (Below w2.heap.size w2 wU) := HBU
  clear HN2 HWU
  go_loopw [15, 16, 37] (fun _ _ s37 wr => ∃ (k : Nat) (u : List UInt8), s37 = .int .i64 k ∧ k ≤ L ∧ Hid (climbD z u0 (sp.take k) (ds.take k) = u ∧ u.length = 32) ∧ Hid (wr.heap[w2.heap.size]? = some (.cells (cellsOf u).toArray 46 (0, 0))) ∧ Hid (Below w2.heap.size w2 wr)) (fun _ _ x _ => L - (intOf x).toNat)
  case atStart => exact ⟨0, u0, rfl, Nat.zero_le _, ⟨rfl, HLE.out⟩, HRU, HBU⟩
  case round =>
    obtain ⟨k, u, rfl, hk, HU, HRW, HBE⟩ := hrel
    have HBWr : Hid (Below w.heap.size w wr) := HBW1.out.trans ((HB2.out.trans (HBE.out.mono HB2.out.size)).mono HBW1.out.size)
    by_cases hlt : k < L
    case neg =>
      have hkz : ¬ (k : Int) < (L : Int) := by omega
      have HE : Hid (climbD z u0 sp ds = u) := by
        have h := HU.out.1
        rw [List.take_of_length_le (by have := HL.out; omega), List.take_of_length_le (by have := HDS.out; omega)] at h
        exact h
      have HCW : Hid (wr.heap[w.heap.size + 1]? = some (.cells cr 46 (0, 0))) := by
        show _ = _
        have h1 := HB1.out.size
        have h2 := HB2.out.size
        have h3 := HFH.out.2.2.2
        rw [HBE.out.block _ (by omega), HB2.out.block _ (by omega), HB1.out.block _ (by omega)]
        exact HFH.out.2.1
      have HIU : Hid ((Tryd.prog.info? 46).map (·.size) = some (cellsOf u).toArray.size) := by show _ = _; rw [size24, dig_size HU.out.2]
      have heq := eq_dig u root HU.out.2 HRT.out
      have heq2 := equalIn_dig u root HU.out.2 HRT.out
      rw [HCR.out] at heq heq2
      obtain ⟨q, HQ⟩ : ∃ q, Hid ((u == root) = q) := ⟨_, rfl⟩
      rw [HQ.out] at heq heq2
      have hg := guard24
      clear hk hlt
      go_wp2_with (first | (refine wpList_load_row rfl 46 (.tmp 14) rfl w2.heap.size rfl 46 (cellsOf u).toArray (0, 0) _ HRW.out Tryd.underlying46 rfl HIU.out ?_) | (refine wpList_load_row rfl 46 (.tmp 7) rfl (w.heap.size + 1) rfl 46 cr (0, 0) _ HCW.out Tryd.underlying46 rfl HIR.out ?_))
      go_ret
      exact ⟨by rw [HE.out, HQ.out]; rfl, HBWr.out⟩
    case pos =>
      have hkz : (k : Int) < (L : Int) := by omega
      have HSTr : Hid (StV wr W0.heap.size aoS sp) := HST.out.below (HB2.out.trans (HBE.out.mono HB2.out.size)) (Nat.le_refl _)
      obtain ⟨g, rfl, -, hcc⟩ := HSTr.out (by have := HL.out; omega)
      obtain ⟨⟨p1, p2, rr⟩, HP⟩ : ∃ p, Hid (sp[k]? = some p) := ⟨_, List.getElem?_eq_getElem (by have := HL.out; omega)⟩
      obtain ⟨d, HDk⟩ : ∃ d, Hid (ds[k]? = some d) := ⟨_, List.getElem?_eq_getElem (by have := HDS.out; omega)⟩
      obtain ⟨c0, c1, c2⟩ := hcc k _ HP.out
      have HPr : Hid (PathV wr ao ds) := HPV.out.below HBWr.out (Nat.le_refl _)
      obtain ⟨pb, po, rfl, hpp⟩ := HPr.out.2 (by have := HDS.out; omega)
      have HRG : Hid (wr.rangeAt pb (po + k * 32) (cellsOf d)) := hpp k d HDk.out
      have HD32 : Hid (d.length = 32) := HPr.out.1 d (List.mem_of_getElem? HDk.out)
      obtain ⟨fq, HFV⟩ : ∃ q, Hid (fnS rr = .func (.func q) #[] #[] ∧ (if rr then 119 else 87) = q) := ⟨_, rfl, rfl⟩
      dsimp only at c0 c1 c2
      rw [HFV.out.1] at c2
      have hst := store_fn wr (.int .i64 (p1 : Int)) (.int .i64 (p2 : Int)) (.func (.func fq) #[] #[]) rfl
      obtain ⟨u2, HU2⟩ : ∃ u2, Hid (joinS z u (⟨0, 0, rr⟩, d) = u2) := ⟨_, rfl⟩
      have HJ : Hid (∀ W, Below w.heap.size w W → Calls Tryd.prog fq #[.agg #[.int .i64 z], .agg (cellsOf u).toArray, .agg (cellsOf d).toArray] W fun e w' => e = .returned (dv u2) ∧ Below W.heap.size W w') := by
        have h := HJN.out rr u d HU.out.2 HD32.out
        rw [HFV.out.2, HU2.out] at h
        exact h
      have HU2L : Hid (u2.length = 32) := by show _ = _; rw [← HU2.out]; exact joinS_len _ _ _
      clear hcc hlt hpp
      go_upto_region 10 with fail
      obtain ⟨W4, HW4⟩ : ∃ W, Hid (W = wr.alloc (.cells #[.int .i64 (p1 : Int), .int .i64 (p2 : Int), .func (.func fq) #[] #[]] 145)) := ⟨_, rfl⟩
      rw [← HW4.out]
      have HB4 : Hid (Below wr.heap.size wr W4) := by show Below _ _ _; rw [HW4.out]; exact bel_alloc _ _
      have HN4 : Hid (W4.heap[wr.heap.size]? = some (.cells #[.int .i64 (p1 : Int), .int .i64 (p2 : Int), .func (.func fq) #[] #[]] 145 (0, 0))) := by show _ = _; rw [HW4.out]; exact heap_alloc_new wr _
      have HGL : Hid (w2.heap.size < wr.heap.size) := (Array.getElem?_eq_some_iff.1 HRW.out).1
      have HCZ : Hid (wr.cell? ⟨w.heap.size, 0, none⟩ = some (.int .i64 z)) := by
        refine bel_cell2 (HB1.out.trans ((HB2.out.trans (HBE.out.mono HB2.out.size)).mono HB1.out.size)) (Nat.le_refl _) ?_
        rw [cell_of_row W0 _ 0 _ _ _ HFH.out.1]; rfl
      have HSB : Hid (∀ W, Below W4.heap.size W4 W → W.cell? ⟨w.heap.size, 0, none⟩ = some (.int .i64 z) ∧ W.cell? ⟨wr.heap.size, 2, none⟩ = some (.func (.func fq) #[] #[]) ∧ W.rangeAt pb (po + k * 32) (cellsOf d)) := fun W hW =>
        ⟨bel_cell2 hW (Nat.le_refl _) (bel_cell2 HB4.out (Nat.le_refl _) HCZ.out), bel_cell2 hW (Nat.le_refl _) (by rw [cell_of_row W4 _ 2 _ _ _ HN4.out]; rfl), range_bel (range_bel HRG.out HB4.out (Nat.le_refl _)) hW (Nat.le_refl _)⟩
      have HBW4 : Hid (Below w.heap.size w W4) := HBWr.out.trans (HB4.out.mono HBWr.out.size)
      have HID : Hid ((Tryd.prog.info? 46).map (·.size) = some (cellsOf d).length) := by show _ = _; rw [size24, cellsOf_length, HD32.out]
      have HIU : Hid ((Tryd.prog.info? 46).map (·.size) = some (cellsOf u).toArray.size) := by show _ = _; rw [size24, dig_size HU.out.2]
      have HRW4 : Hid (W4.heap[w2.heap.size]? = some (.cells (cellsOf u).toArray 46 (0, 0))) := (HB4.out.block _ HGL.out).trans HRW.out
      have HPB : Hid (pb ≠ w2.heap.size) := by
        have h0 : (cellsOf d)[0]? = some (cellsOf d)[0]! := by rw [getElem!_pos (cellsOf d) 0 (by rw [cellsOf_length, HD32.out]; omega), List.getElem?_eq_getElem]
        obtain ⟨b', o', e1, e2⟩ := HPV.out.2 (by have := HDS.out; have := HP.out; omega)
        cases e1
        have := World.block_lt_of_cell? _ _ (e2 k d HDk.out 0 _ h0)
        have h1 := HBW1.out.size
        have h2 := HB2.out.size
        dsimp only at this
        show _ ≠ _
        omega
      clear hst c0 c1 c2
      refine wp_region_held_drew (S := fun W => W.cell? ⟨w.heap.size, 0, none⟩ = some (.int .i64 z) ∧ W.cell? ⟨wr.heap.size, 2, none⟩ = some (.func (.func fq) #[] #[]) ∧ W.rangeAt pb (po + k * 32) (cellsOf d)) (by kernel_rfl) (HSB.out _ (Below.drew (Below.refl _ _))) (fun hS => ?_)
      refine wpAnyH_take (i := 0) (v := ?_) rfl (by kernel_rfl) (by kernel_rfl) (by kernel_rfl) (fun _ _ _ h => h) (Or.inl ⟨by rfl, ?_⟩) (by assumption) ?_
      rotate_left
      · (intro w hSw; (try dsimp only at hSw); go_simp; try with_reducible rfl)
      simp only [Act.put, List.getElem_toArray, List.getElem_cons_zero, List.setIfInBounds_toArray, List.set_cons_zero, List.set_cons_succ]
      refine wpAnyH_take (i := 1) (v := ?_) rfl (by kernel_rfl) (by kernel_rfl) (by kernel_rfl) (fun _ _ _ h => h) (Or.inl ⟨by rfl, ?_⟩) (by assumption) ?_
      rotate_left
      · (intro w hSw; (try dsimp only at hSw); go_simp; try with_reducible rfl)
      simp only [Act.put, List.getElem_toArray, List.getElem_cons_zero, List.getElem_cons_succ, List.setIfInBounds_toArray, List.set_cons_zero, List.set_cons_succ]
      refine wpAnyH_take (i := 2) (v := ?_) rfl (by kernel_rfl) (by kernel_rfl) (by kernel_rfl) (fun _ _ _ h => h) (Or.inl ⟨by rfl, ?_⟩) (by assumption) ?_
      rotate_left
      · (intro w hSw; (try dsimp only at hSw); go_simp; try with_reducible rfl)
      simp only [Act.put, List.getElem_toArray, List.getElem_cons_zero, List.getElem_cons_succ, List.setIfInBounds_toArray, List.set_cons_zero, List.set_cons_succ]
      refine wpAnyH_take (i := 4) (v := ?_) rfl (by kernel_rfl) (by kernel_rfl) (by kernel_rfl) (fun _ _ _ h => h) (Or.inl ⟨by rfl, ?_⟩) (by assumption) ?_
      rotate_left
      · (intro w hSw; (try dsimp only at hSw); go_simp; try with_reducible rfl)
      simp only [Act.put, List.getElem_toArray, List.getElem_cons_zero, List.getElem_cons_succ, List.setIfInBounds_toArray, List.set_cons_zero, List.set_cons_succ]
      refine wpAnyH_take (i := 5) (v := ?_) rfl (by kernel_rfl) (by kernel_rfl) (by kernel_rfl) (fun _ _ _ h => h) (Or.inl ⟨by rfl, ?_⟩) (by assumption) ?_
      rotate_left
      · (intro w hSw; (try dsimp only at hSw); go_simp; try with_reducible rfl)
      simp only [Act.put, List.getElem_toArray, List.getElem_cons_zero, List.getElem_cons_succ, List.setIfInBounds_toArray, List.set_cons_zero, List.set_cons_succ]
      refine wpAnyH_take (i := 6) (v := ?_) rfl (by kernel_rfl) (by kernel_rfl) (by kernel_rfl) (fun _ _ _ h => h) (Or.inl ⟨by rfl, ?_⟩) (by assumption) ?_
      rotate_left
      · (intro w hSw; (try dsimp only at hSw); go_simp; try with_reducible rfl)
      simp only [Act.put, List.getElem_toArray, List.getElem_cons_zero, List.getElem_cons_succ, List.setIfInBounds_toArray, List.set_cons_zero, List.set_cons_succ]
      refine wpAnyH_take (i := 7) (v := .agg (cellsOf d).toArray) rfl (by kernel_rfl) (by kernel_rfl) (by kernel_rfl) (fun _ _ _ h => h) (yieldsIf_load_mid (by rfl) 46 (.tmp 48) rfl pb (po + k * 32) rfl (cellsOf d) _ (fun _ h => h.2.2) Tryd.underlying46 rfl HID.out) (by assumption) ?_
      simp only [Act.put, List.getElem_toArray, List.getElem_cons_zero, List.getElem_cons_succ, List.setIfInBounds_toArray, List.set_cons_zero, List.set_cons_succ]
      refine wpAnyH_ready (rs := [3]) (by kernel_rfl) (by simp) ?_
      refine AllReadyH.cons rfl (fun K hK => ?_) AllReadyH.nil
      rw [if_pos (by rfl)]
      refine wp_load_row 46 (.tmp 14) rfl w2.heap.size rfl 46 (cellsOf u).toArray (0, 0) _ HRW4.out Tryd.underlying46 rfl HIU.out ?_
      refine hK.out _ _ (HSB.out _ (Below.drew (Below.refl _ _))) (fun hHeld2 => ?_)
      clear hK K
      simp only [Act.put, List.getElem_toArray, List.getElem_cons_zero, List.getElem_cons_succ, List.setIfInBounds_toArray, List.set_cons_zero, List.set_cons_succ]
      have hq : fq = 87 ∨ fq = 119 := by rw [← HFV.out.2]; cases rr <;> simp
      have hcf : ∀ w args, Sem.run Tryd.prog (callFunc fq args) w = .ok (.enter fq args) w := by
        intro w args
        clear hHeld2 hS
        rcases hq with rfl | rfl <;> go_simp
      clear hq
      refine wpAnyH_ready (rs := [8]) (by kernel_rfl) (by simp) ?_
      refine AllReadyH.cons rfl (fun K hK => ?_) AllReadyH.nil
      go_simp
      refine (HJ.out _ (Below.drew HBW4.out)).mono ?_
      rintro e w5 ⟨rfl, hb5⟩
      have HB5 : Hid (Below W4.heap.size W4 w5) := (Below.drew (Below.refl _ _)).trans hb5
      have HRW5 : Hid (w5.heap[w2.heap.size]? = some (.cells (cellsOf u).toArray 46 (0, 0))) := (HB5.out.block _ (Nat.lt_of_lt_of_le HGL.out HB4.out.size)).trans HRW4.out
      unfold dv
      go_wp2_with fail
      refine hK.out _ _ (HSB.out _ HB5.out) (fun hHeld2 => ?_)
      clear hK K hb5 hcf
      refine wpAnyH_ready (rs := [9]) (by kernel_rfl) (by simp) ?_
      refine AllReadyH.cons rfl (fun K hK => ?_) AllReadyH.nil
      rw [if_pos (by rfl)]
      refine wp_store_row 46 (.tmp 14) (.tmp 50) rfl w2.heap.size (cellsOf u2).toArray rfl rfl 46 _ HRW5.out (by rw [size24, dig_size HU2L.out]) (by rw [dig_size HU.out.2, dig_size HU2L.out]) (cells_all _) ?_
      refine hK.out _ _ ?_ (fun hHeld2 => ?_)
      · obtain ⟨q0, q1, q2⟩ := HSB.out _ HB5.out
        have e1 : w.heap.size ≠ w2.heap.size := by
          have h1 := HB1.out.size
          have h2 := HB2.out.size
          have h3 := HFH.out.2.2.2
          omega
        exact ⟨cell_row_far q0 e1, cell_row_far q1 (show wr.heap.size ≠ w2.heap.size by have := HGL.out; omega), range_far q2 HPB.out⟩
      clear hK K
      refine wpAnyH_done (by kernel_rfl) ?_ _
      clear hS hHeld2
      have HR6 : Hid ((w5.setRow w2.heap.size (cellsOf u2).toArray).heap[w2.heap.size]? = some (.cells (cellsOf u2).toArray 46 (0, 0))) := setRow_heap _ _ _ _ _ _ HRW5.out
      have HB6 : Hid (Below w2.heap.size w2 (w5.setRow w2.heap.size (cellsOf u2).toArray)) := below_row (HBE.out.trans ((HB4.out.trans (HB5.out.mono HB4.out.size)).mono HBE.out.size)) (Nat.le_refl _) _
      have HU6 : Hid (climbD z u0 (sp.take (k + 1)) (ds.take (k + 1)) = u2 ∧ u2.length = 32) := ⟨by rw [climb_snoc z u0 sp ds k _ d HP.out HDk.out, HU.out.1, ← HU2.out]; rfl, HU2L.out⟩
      have hk1 : k + 1 ≤ L := by omega
      go_wp2_with fail
      have hL2 := HL64.out
      rw [wrap64_small _ (by omega) (by omega)]
      refine ⟨⟨k + 1, u2, rfl, hk1, HU6, HR6, HB6⟩, ?_⟩
      simp [intOf]
      omega
end Go.Proofs.YtecacjddggljgaaDoor.Sm
