/-
  What written of a summary answers: a contract over this translation.
-/
import Derived.Test.YtiimmknnlciljaaDoorSuF
import Derived.Test.YtiimmknnlciljaaDoorSuR
namespace Go.Proofs.YtiimmknnlciljaaDoor
open Go.RowKit Go.Sort Go.Shelf
set_option linter.unusedSectionVars false
variable [Inhabited E] [DecidableEq E]
theorem root_bytes {w : World} {g : Nat} {x : Tb} (h : Box w g x) : Bytes w (some ⟨g, 2, none⟩) 32 x.root := by
  refine ⟨x.hr, fun i c hi => ⟨_, rfl, ?_⟩⟩
  have hl : i < 32 := by have := (List.getElem?_eq_some_iff.1 hi).1; rwa [x.hr] at this
  rw [Addr.add_lit]
  refine h.at_ ?_
  rw [encT_root x i hl]
  simp [cellsOf, hi]
set_option maxRecDepth 100000 in
set_option maxHeartbeats 8000000 in
theorem written_any (x : Tb) (w : World) (h0 : 0 ≤ x.lv) (h1 : x.lv ≤ 9223372036854775807) (h2 : 0 ≤ x.ct) (h3 : x.ct ≤ 9223372036854775807) (hf : x.first.size ≤ 1000) (hl : x.last.size ≤ 1000) :
    Calls Tryd.prog 32 #[.agg (encT x).toArray] w fun e w' => ∃ v, e = .returned v ∧ w'.ownsRow w.heap.size 5 1 v (writtenB x).length (cellsOf (writtenB x)) ∧ Below w.heap.size w w' := by
  have HBX : Hid (Box (w.alloc (.cells (encT x).toArray 51)) w.heap.size x) := box_new w x
  obtain ⟨lv, hlv⟩ : ∃ n : Nat, x.lv = (n : Int) := ⟨x.lv.toNat, by omega⟩
  obtain ⟨ct, hct⟩ : ∃ n : Nat, x.ct = (n : Int) := ⟨x.ct.toNat, by omega⟩
  obtain ⟨f, HFF⟩ : ∃ f, Hid (x.first = f) := ⟨_, rfl⟩
  obtain ⟨l, HLL⟩ : ∃ f, Hid (x.last = f) := ⟨_, rfl⟩
  rw [HFF.out] at hf
  rw [HLL.out] at hl
  have HC : Hid (∀ W g, Box W g x → W.cell? ⟨g, 0, none⟩ = some (.int .i64 (lv : Int)) ∧ W.cell? ⟨g, 1, none⟩ = some (.int .i64 (ct : Int)) ∧ W.cell? ⟨g, 34, none⟩ = some (.string f) ∧ W.cell? ⟨g, 35, none⟩ = some (.string l)) := fun W g h => by
    have := h.four; rw [hlv, hct, HFF.out, HLL.out] at this; exact this
  have HWB : Hid (writtenB x = putB lv ++ putB ct ++ x.root ++ textB (strB f) ++ textB (strB l)) := by
    show _ = _
    unfold writtenB; rw [hlv, hct, HFF.out, HLL.out]; rfl
  have hlv1 : lv ≤ 9223372036854775807 := by omega
  have hct1 : ct ≤ 9223372036854775807 := by omega
  have HWV : Hid (IntKind.u64.wrap (lv : Int) = (lv : Int)) := IntWalk.u64_in _ ⟨by omega, by omega⟩
  have HWC : Hid (IntKind.u64.wrap (ct : Int) = (ct : Int)) := IntWalk.u64_in _ ⟨by omega, by omega⟩
  rw [HWB.out]
  obtain ⟨rt, HRT⟩ : ∃ r, Hid (x.root = r) := ⟨_, rfl⟩
  rw [HRT.out]
  clear h0 h1 h2 h3 hlv hct
  have hbw : Below w.heap.size w (w.alloc (.cells (encT x).toArray 51)) := bel_alloc w _
  go_enter Tryd.func32, Tryd.ntmps32
  have HS0 : Hid (∀ W, Below (w.alloc (.cells (encT x).toArray 51)).heap.size (w.alloc (.cells (encT x).toArray 51)) W → W.cell? ⟨w.heap.size, 0, none⟩ = some (.int .i64 (lv : Int)) ∧ W.cell? ⟨w.heap.size, 1, none⟩ = some (.int .i64 (ct : Int)) ∧ W.cell? ⟨w.heap.size, 34, none⟩ = some (.string f) ∧ W.cell? ⟨w.heap.size, 35, none⟩ = some (.string l)) := fun W hW => HC.out W _ (HBX.out.keep hW)
  go_upto_region 1 with fail
  refine wp_region_held_drew (S := fun W => W.cell? ⟨w.heap.size, 0, none⟩ = some (.int .i64 (lv : Int)) ∧ W.cell? ⟨w.heap.size, 1, none⟩ = some (.int .i64 (ct : Int)) ∧ W.cell? ⟨w.heap.size, 34, none⟩ = some (.string f) ∧ W.cell? ⟨w.heap.size, 35, none⟩ = some (.string l)) (by kernel_rfl) (HS0.out _ (Below.drew (Below.refl _ _))) (fun hS => ?_)
  refine wpAnyH_take (i := 0) (v := ?_) rfl (by kernel_rfl) (by kernel_rfl) (by kernel_rfl) (fun _ _ _ h => h) (Or.inl ⟨by rfl, ?_⟩) (by assumption) ?_
  rotate_left
  · (intro w hSw; (try dsimp only at hSw); go_simp; try with_reducible rfl)
  simp only [Act.put, List.getElem_toArray, List.getElem_cons_zero, List.setIfInBounds_toArray, List.set_cons_zero, List.set_cons_succ]
  refine wpAnyH_take (i := 1) (v := ?_) rfl (by kernel_rfl) (by kernel_rfl) (by kernel_rfl) (fun _ _ _ h => h) (Or.inl ⟨by rfl, ?_⟩) (by assumption) ?_
  rotate_left
  · (intro w hSw; (try dsimp only at hSw); go_simp; try with_reducible rfl)
  simp only [Act.put, List.getElem_toArray, List.getElem_cons_zero, List.getElem_cons_succ, List.setIfInBounds_toArray, List.set_cons_zero, List.set_cons_succ]
  refine wpAnyH_take (i := 2) (v := ?_) rfl (by kernel_rfl) (by kernel_rfl) (by kernel_rfl) (fun _ _ _ h => h) (Or.inl ⟨by rfl, ?_⟩) (by assumption) ?_
  rotate_left
  · (intro w hSw; (try dsimp only at hSw); go_simp; try with_reducible rfl)
  simp only [Act.put, List.getElem_toArray, List.getElem_cons_zero, List.getElem_cons_succ, List.setIfInBounds_toArray, List.set_cons_zero, List.set_cons_succ]
  refine wpAnyH_take (i := 4) (v := ?_) rfl (by kernel_rfl) (by kernel_rfl) (by kernel_rfl) (fun _ _ _ h => h) (Or.inl ⟨by rfl, ?_⟩) (by assumption) ?_
  rotate_left
  · (intro w hSw; (try dsimp only at hSw); go_simp; try with_reducible rfl)
  simp only [Act.put, List.getElem_toArray, List.getElem_cons_zero, List.getElem_cons_succ, List.setIfInBounds_toArray, List.set_cons_zero, List.set_cons_succ]
  refine wpAnyH_take (i := 5) (v := ?_) rfl (by kernel_rfl) (by kernel_rfl) (by kernel_rfl) (fun _ _ _ h => h) (Or.inl ⟨by rfl, ?_⟩) (by assumption) ?_
  rotate_left
  · (intro w hSw; (try dsimp only at hSw); go_simp; try with_reducible rfl)
  simp only [Act.put, List.getElem_toArray, List.getElem_cons_zero, List.getElem_cons_succ, List.setIfInBounds_toArray, List.set_cons_zero, List.set_cons_succ]
  refine wpAnyH_take (i := 6) (v := ?_) rfl (by kernel_rfl) (by kernel_rfl) (by kernel_rfl) (fun _ _ _ h => h) (Or.inl ⟨by rfl, ?_⟩) (by assumption) ?_
  rotate_left
  · (intro w hSw; (try dsimp only at hSw); go_simp; try with_reducible rfl)
  simp only [Act.put, List.getElem_toArray, List.getElem_cons_zero, List.getElem_cons_succ, List.setIfInBounds_toArray, List.set_cons_zero, List.set_cons_succ]
  refine wpAnyH_ready (rs := [3]) (by kernel_rfl) (by simp) ?_
  refine AllReadyH.cons rfl (fun K hK => ?_) AllReadyH.nil
  go_simp
  rw [HWV.out, HWC.out]
  refine (put_own lv _ (by omega)).mono ?_
  rintro e w1 ⟨ao1, d1, rfl, hown1, hb1⟩
  have HB1 : Hid (Below (w.alloc (.cells (encT x).toArray 51)).heap.size (w.alloc (.cells (encT x).toArray 51)) w1) := (Below.drew (Below.refl _ _)).trans hb1
  obtain ⟨ao1', d1', he1, hby1, hn1, hlc1, hcm1, hsz1, -⟩ := own_bytes hown1
  cases he1
  have HBY1 : Hid (Bytes w1 ao1 (sz lv) (putB lv)) := hby1
  have HN1 : Hid (ao1 = none → d1 = 0) := hn1
  have HL1 : Hid (sz lv ≤ d1 ∧ d1 ≤ 9223372036854775807) := ⟨hlc1, by unfold maxLen at hcm1; omega⟩
  clear hown1 hb1 hby1 hn1 hlc1 hcm1 hsz1
  go_wp2_with fail
  refine hK.out _ _ (HS0.out _ HB1.out) (fun hHeld2 => ?_)
  clear hK K
  refine wpAnyH_ready (rs := [7]) (by kernel_rfl) (by simp) ?_
  refine AllReadyH.cons rfl (fun K hK => ?_) AllReadyH.nil
  go_simp
  refine (put_any ao1 (sz lv) d1 (putB lv) ct _ HL1.out.1 HL1.out.2 HN1.out HBY1.out (by omega) (by have := sz_le lv; omega)).mono ?_
  rintro e w2 ⟨v2, rfl, hown2, hb2⟩
  have HB2 : Hid (Below (w.alloc (.cells (encT x).toArray 51)).heap.size (w.alloc (.cells (encT x).toArray 51)) w2) := HB1.out.trans (hb2.mono HB1.out.size)
  have HO2 : Hid (w2.ownsRow (w.heap.size + 1) 5 1 v2 (putB lv ++ putB ct).length (cellsOf (putB lv ++ putB ct))) := ownsRow_mono hown2 (by have := HB1.out.size; simp at this; omega)
  clear hown2 hb2 HBY1 HN1 HL1
  go_wp2_with fail
  refine hK.out _ _ (HS0.out _ HB2.out) (fun hHeld3 => ?_)
  clear hK K
  refine wpAnyH_take (i := 8) (v := ?_) rfl (by kernel_rfl) (by kernel_rfl) (by kernel_rfl) (fun _ _ _ h => h) (Or.inl ⟨by rfl, ?_⟩) (by assumption) ?_
  rotate_left
  · (intro w hSw; (try dsimp only at hSw); go_simp; try with_reducible rfl)
  simp only [Act.put, List.getElem_toArray, List.getElem_cons_zero, List.getElem_cons_succ, List.setIfInBounds_toArray, List.set_cons_zero, List.set_cons_succ]
  refine wpAnyH_done (by kernel_rfl) ?_ _
  have hlen2 : (putB lv ++ putB ct).length ≤ 20 := by rw [List.length_append]; have := putB_le lv; have := putB_le ct; omega
  have HR2 : Hid (Bytes w2 (some ⟨w.heap.size, 2, none⟩) 32 rt) := by rw [← HRT.out]; exact root_bytes (HBX.out.keep HB2.out)
  have HW2 : Hid (w.heap.size + 1 ≤ w2.heap.size) := by show _ ≤ _; have := HB2.out.size; simp at this; omega
  clear hS hHeld2 hHeld3
  go_wp2_with (at_builtin; refine wpList_append_bytes _ rfl (.tmp 12) (.tmp 14) rfl (w.heap.size + 1) _ _ (putB lv ++ putB ct) rfl HO2.out HW2.out (some ⟨w.heap.size, 2, none⟩) 32 32 rt rfl HR2.out (fun h => by cases h) (by omega) ?_)
  intro v3 w3 hown3 hb3
  have HW3 : Hid (Below w.heap.size w w3) := (hbw.trans (HB2.out.mono (by simp))).trans (hb3.mono (by omega))
  have HO3 : Hid (w3.ownsRow (w.heap.size + 1) 5 1 v3 (putB lv ++ putB ct ++ rt).length (cellsOf (putB lv ++ putB ct ++ rt))) := by
    show World.ownsRow _ _ _ _ _ _ _
    simpa [List.append_assoc] using hown3
  have HRL : Hid (rt.length = 32) := by show _ = _; rw [← HRT.out]; exact x.hr
  have hlen3 : (putB lv ++ putB ct ++ rt).length ≤ 52 := by have := HRL.out; rw [List.length_append]; omega
  have hlen4 : (putB lv ++ putB ct ++ rt ++ textB (strB f)).length ≤ 1062 + 52 := by rw [List.length_append]; have := textB_length (strB f); have := strB_length f; omega
  have HS3 : Hid (∀ W, Below w3.heap.size w3 W → W.cell? ⟨w.heap.size, 0, none⟩ = some (.int .i64 (lv : Int)) ∧ W.cell? ⟨w.heap.size, 1, none⟩ = some (.int .i64 (ct : Int)) ∧ W.cell? ⟨w.heap.size, 34, none⟩ = some (.string f) ∧ W.cell? ⟨w.heap.size, 35, none⟩ = some (.string l)) := fun W hW => HS0.out W ((HB2.out.trans (hb3.mono (by simp))).trans (hW.mono (by have := HB2.out.size; have := hb3.size; omega)))
  clear hown3 hb3 HO2 HR2
  go_upto_region 3 with fail
  refine wp_region_held_drew (S := fun W => W.cell? ⟨w.heap.size, 0, none⟩ = some (.int .i64 (lv : Int)) ∧ W.cell? ⟨w.heap.size, 1, none⟩ = some (.int .i64 (ct : Int)) ∧ W.cell? ⟨w.heap.size, 34, none⟩ = some (.string f) ∧ W.cell? ⟨w.heap.size, 35, none⟩ = some (.string l)) (by kernel_rfl) (HS3.out _ (Below.drew (Below.refl _ _))) (fun hS => ?_)
  refine wpAnyH_take (i := 0) (v := ?_) rfl (by kernel_rfl) (by kernel_rfl) (by kernel_rfl) (fun _ _ _ h => h) (Or.inl ⟨by rfl, ?_⟩) (by assumption) ?_
  rotate_left
  · (intro w hSw; (try dsimp only at hSw); go_simp; try with_reducible rfl)
  simp only [Act.put, List.getElem_toArray, List.getElem_cons_zero, List.setIfInBounds_toArray, List.set_cons_zero, List.set_cons_succ]
  refine wpAnyH_take (i := 1) (v := ?_) rfl (by kernel_rfl) (by kernel_rfl) (by kernel_rfl) (fun _ _ _ h => h) (Or.inl ⟨by rfl, ?_⟩) (by assumption) ?_
  rotate_left
  · (intro w hSw; (try dsimp only at hSw); go_simp; try with_reducible rfl)
  simp only [Act.put, List.getElem_toArray, List.getElem_cons_zero, List.getElem_cons_succ, List.setIfInBounds_toArray, List.set_cons_zero, List.set_cons_succ]
  refine wpAnyH_take (i := 2) (v := ?_) rfl (by kernel_rfl) (by kernel_rfl) (by kernel_rfl) (fun _ _ _ h => h) (Or.inl ⟨by rfl, ?_⟩) (by assumption) ?_
  rotate_left
  · (intro w hSw; (try dsimp only at hSw); go_simp; try with_reducible rfl)
  simp only [Act.put, List.getElem_toArray, List.getElem_cons_zero, List.getElem_cons_succ, List.setIfInBounds_toArray, List.set_cons_zero, List.set_cons_succ]
  refine wpAnyH_take (i := 4) (v := ?_) rfl (by kernel_rfl) (by kernel_rfl) (by kernel_rfl) (fun _ _ _ h => h) (Or.inl ⟨by rfl, ?_⟩) (by assumption) ?_
  rotate_left
  · (intro w hSw; (try dsimp only at hSw); go_simp; try with_reducible rfl)
  simp only [Act.put, List.getElem_toArray, List.getElem_cons_zero, List.getElem_cons_succ, List.setIfInBounds_toArray, List.set_cons_zero, List.set_cons_succ]
  refine wpAnyH_take (i := 5) (v := ?_) rfl (by kernel_rfl) (by kernel_rfl) (by kernel_rfl) (fun _ _ _ h => h) (Or.inl ⟨by rfl, ?_⟩) (by assumption) ?_
  rotate_left
  · (intro w hSw; (try dsimp only at hSw); go_simp; try with_reducible rfl)
  simp only [Act.put, List.getElem_toArray, List.getElem_cons_zero, List.getElem_cons_succ, List.setIfInBounds_toArray, List.set_cons_zero, List.set_cons_succ]
  refine wpAnyH_ready (rs := [3]) (by kernel_rfl) (by simp) ?_
  refine AllReadyH.cons rfl (fun K hK => ?_) AllReadyH.nil
  go_simp
  obtain ⟨ao3', d3', he3, hby3, hn3, hlc3, hcm3, hsz3, -⟩ := own_bytes (own_below HO3.out (Below.drew (Below.refl _ _)) (Nat.le_refl _))
  subst he3
  refine (putText_any ao3' _ d3' (putB lv ++ putB ct ++ rt) f _ hlc3 (by unfold maxLen at hcm3; omega) hn3 hby3 (by omega)).mono ?_
  rintro e w4 ⟨v4, rfl, hown4, hb4⟩
  have HB4 : Hid (Below w3.heap.size w3 w4) := (Below.drew (Below.refl _ _)).trans hb4
  have HO4 : Hid (w4.ownsRow w.heap.size 5 1 v4 (putB lv ++ putB ct ++ rt ++ textB (strB f)).length (cellsOf (putB lv ++ putB ct ++ rt ++ textB (strB f)))) := ownsRow_mono hown4 (by have := HW3.out.size; simp; omega)
  clear hown4 hb4 hby3 hn3 hlc3 hcm3 hsz3
  go_wp2_with fail
  refine hK.out _ _ (HS3.out _ HB4.out) (fun hHeld2 => ?_)
  clear hK K
  refine wpAnyH_ready (rs := [6]) (by kernel_rfl) (by simp) ?_
  refine AllReadyH.cons rfl (fun K hK => ?_) AllReadyH.nil
  go_simp
  obtain ⟨ao4', d4', he4, hby4, hn4, hlc4, hcm4, hsz4, -⟩ := own_bytes HO4.out
  subst he4
  refine (putText_any ao4' _ d4' (putB lv ++ putB ct ++ rt ++ textB (strB f)) l _ hlc4 (by unfold maxLen at hcm4; omega) hn4 hby4 (by omega)).mono ?_
  rintro e w5 ⟨v5, rfl, hown5, hb5⟩
  have HB5 : Hid (Below w3.heap.size w3 w5) := HB4.out.trans (hb5.mono HB4.out.size)
  have HO5 : Hid (w5.ownsRow w.heap.size 5 1 v5 (putB lv ++ putB ct ++ rt ++ textB (strB f) ++ textB (strB l)).length (cellsOf (putB lv ++ putB ct ++ rt ++ textB (strB f) ++ textB (strB l)))) := ownsRow_mono hown5 (by have := HW3.out.size; have := HB4.out.size; omega)
  clear hown5 hb5 hby4 hn4 hlc4 hcm4 hsz4
  go_wp2_with fail
  refine hK.out _ _ (HS3.out _ HB5.out) (fun hHeld3 => ?_)
  clear hK K
  refine wpAnyH_take (i := 7) (v := ?_) rfl (by kernel_rfl) (by kernel_rfl) (by kernel_rfl) (fun _ _ _ h => h) (Or.inl ⟨by rfl, ?_⟩) (by assumption) ?_
  rotate_left
  · (intro w hSw; (try dsimp only at hSw); go_simp; try with_reducible rfl)
  simp only [Act.put, List.getElem_toArray, List.getElem_cons_zero, List.getElem_cons_succ, List.setIfInBounds_toArray, List.set_cons_zero, List.set_cons_succ]
  refine wpAnyH_done (by kernel_rfl) ?_ _
  clear hS hHeld2 hHeld3
  go_wp2_with fail
  go_ret
  exact ⟨v5, rfl, HO5.out, HW3.out.trans (HB5.out.mono HW3.out.size)⟩
end Go.Proofs.YtiimmknnlciljaaDoor
