/-
  MemPlays: the walk.
-/
import Derived.Test.YtaamekkbgaeafaaDoorPlM
import Derived.Test.YtaamekkbgaeafaaDoorChnW
import Derived.Deep.RegionHeld3
namespace Go.Proofs.YtaamekkbgaeafaaDoor
open Go.RowKit
set_option linter.unusedSectionVars false
set_option linter.unusedVariables false
variable [Inhabited E] [DecidableEq E]
set_option maxRecDepth 100000 in
set_option maxHeartbeats 4000000 in
theorem plays_walk (ao : Option Addr) (n c : Nat) (f : Nat → Om) (w : World) (hE : OpsV w ao n f) (hnc : n ≤ c) (hc : c ≤ 9223372036854775807) (hK : KK w) :
    Calls Tryd.prog 3 #[.slice ao n c] w fun e w' => e = .returned (.bool true) ∧ Below w.heap.size w w' := by
  have hk2 := hK.2
  obtain ⟨B, HB⟩ : ∃ B, Hid (w.heap.size = B) := ⟨_, rfl⟩
  rw [HB.out] at hk2
  rw [HB.out]
  have HE : Hid (∀ W, Below B w W → OpsV W ao n f) := fun W hW => hE.below (by rw [HB.out]; exact hW)
  clear hE
  go_enter Tryd.func3, Tryd.ntmps3
  go_wp2_with (go_at_call 9; refine (shown_any w hK).mono ?_; rintro e w1 ⟨rfl, hb1, hk1⟩)
  rw [HB.out] at hb1
  have hs1 : B ≤ w1.heap.size := by have := hb1.size; rw [HB.out] at this; exact this
  refine (new_fr B w1 hk1 hs1 hk2).mono ?_
  rintro e w2 ⟨gm, rfl, hM2, hb2, hk2x⟩
  have hs2 := Nat.le_trans hs1 hb2.size
  go_wp2_with fail
  refine (refNew_any w2).mono ?_
  rintro e w3 ⟨gr, rfl, hR3, hb3⟩
  have HP3 : Hid (Pl B w3 gm gr 0 rf0 (here (Fr B) w2) (here (fun k => w2.heap.size ≤ k) w3)) := by
    refine ⟨(hM2.now).grown hb3, hR3.now, fun k hk => ⟨hk.1, Nat.lt_of_lt_of_le hk.2 hb3.size⟩, fun k hk => ⟨Nat.le_trans hs2 hk.1, hk.2⟩, fun k hk hk2 => ?_⟩
    have := hk.2; have := hk2.1; omega
  have HK3 : Hid (KK w3) := hk2x.below hb3 hk2x.2
  have HW3 : Hid (Below B w w3) := hb1.trans (hb2.trans (hb3.mono hs2))
  clear hM2 hR3 hb1 hb2 hb3 hk1 hk2x hs1 hs2 hK
  go_wp2_with fail
  go_loopw [6, 7, 8, 9, 10, 11, 12, 13, 14, 15] (fun x6 _ _ _ _ _ _ _ _ _ wr => ∃ (i : Nat) (R : Rf) (om oR : Nat → Prop), x6 = .int .i64 (i : Nat) ∧ i ≤ n ∧ i ≤ 150 ∧ Hid (Pl B wr gm gr i R om oR ∧ KK wr ∧ Below B w wr)) (fun x _ _ _ _ _ _ _ _ _ _ => 150 - (intOf x).toNat)
  case atStart => exact ⟨0, _, _, _, rfl, by omega, by omega, HP3.out, HK3.out, HW3.out⟩
  case round =>
    obtain ⟨i, R, om, oR, rfl, hi1, hi2, HI⟩ := hrel
    clear HP3 HK3 HW3
    by_cases hin : i < n ∧ i < 150
    · obtain ⟨hi3, hi4⟩ := hin
      have hz1 : (i : Int) < (n : Int) := by omega
      have hz2 : (i : Int) < 150 := by omega
      obtain ⟨b, off, hao, hok, hcells⟩ := HE.out wr HI.out.2.2 i hi3
      subst hao
      obtain ⟨⟨kd, ⟨k, v, d, q⟩, lo, hi⟩, hx⟩ : ∃ o, f i = o := ⟨_, rfl⟩
      rw [hx] at hok hcells
      obtain ⟨sk, sv, slo, shi⟩ := hok
      have f0 := hcells 0 _ rfl
      have f1 := hcells 1 _ rfl
      have f2 := hcells 2 _ rfl
      have f3 := hcells 3 _ rfl
      have f4 := hcells 4 _ rfl
      have f5 := hcells 5 _ rfl
      have f6 := hcells 6 _ rfl
      rw [Nat.add_zero] at f0
      clear hcells hx
      have hB0 : B ≤ wr.heap.size := Nat.le_trans (Nat.le_of_eq HB.out.symm) HI.out.2.2.size
      by_cases hk1 : kd = 1
      · subst hk1
        obtain ⟨k2, v2, HC, sk2, sv2⟩ := cut_form k v d q
        go_wp2_with fail
        obtain ⟨W3, hW3⟩ : ∃ W3, W3 = wr.alloc (Obj.cells #[Value.int IntKind.i64 1, Value.string k, Value.string v, Value.bool d, Value.int IntKind.i64 q, Value.string lo, Value.string hi] 31) := ⟨_, rfl⟩
        rw [← hW3]
        have hbA : Below wr.heap.size wr W3 := by rw [hW3]; exact bel_alloc wr _
        have hcc := cut_any k v d q W3 sk sv
        rw [HC] at hcc
        have HCC : Hid (Calls Tryd.prog 12 #[.agg #[.string k, .string v, .bool d, .int .i64 q]] W3 fun e w' => e = .returned (.agg #[.string k2, .string v2, .bool d, .int .i64 q]) ∧ Below W3.heap.size W3 w') := hcc
        clear hW3 f0 f1 f2 f3 f4 f5 f6 hcc
        refine HCC.out.mono ?_
        rintro e w4 ⟨rfl, hb4⟩
        have hbA4 : Below wr.heap.size wr w4 := hbA.trans (hb4.mono hbA.size)
        obtain ⟨W5, hW5⟩ : ∃ W5, W5 = w4.alloc (Obj.cells #[Value.string k2, Value.string v2, Value.bool d, Value.int IntKind.i64 q] 29) := ⟨_, rfl⟩
        have hbA5 : Below wr.heap.size wr W5 := by rw [hW5]; exact hbA4.trans ((bel_alloc w4 _).mono hbA4.size)
        have e5 : W5.heap[w4.heap.size]? = some (.cells #[Value.string k2, Value.string v2, Value.bool d, Value.int IntKind.i64 q] 29) := by rw [hW5]; exact heap_alloc_new w4 _
        have hs4 : wr.heap.size ≤ w4.heap.size := hbA4.size
        clear HCC hb4 hbA hbA4 HC
        go_wp2_with fail
        rw [← hW5]
        clear hW5
        have HP5 : Hid (Pl B W5 gm gr i R om oR) := HI.out.1.below hbA5
        have HK5 : Hid (KK W5) := HI.out.2.1.below hbA5 HI.out.2.1.2
        have HW5 : Hid (Below B w W5) := HI.out.2.2.trans (hbA5.mono hB0)
        have HNO : Hid (∀ k, om k ∨ oR k → k < wr.heap.size) := fun k hk => by
          rcases hk with h | h
          · exact (HI.out.1.lm k h).2
          · exact (HI.out.1.lr k h).2
        have hB5 : B ≤ W5.heap.size := Nat.le_trans hB0 hbA5.size
        obtain ⟨px, HPX0⟩ : ∃ px, Hid (putN R.mm (⟨k2, v2, d, q⟩ : E) = px) := ⟨_, rfl⟩
        have x5 := four_cells e5
        clear hbA5
        refine wp_region_held_drew (S := fun w' => w'.cell? ⟨w4.heap.size, 0, none⟩ = some (.string k2) ∧ w'.cell? ⟨w4.heap.size, 1, none⟩ = some (.string v2) ∧ w'.cell? ⟨w4.heap.size, 2, none⟩ = some (.bool d) ∧ w'.cell? ⟨w4.heap.size, 3, none⟩ = some (.int .i64 q)) (by kernel_rfl) x5 (fun hS => ?_)
        refine wpAnyH_take (i := 0) (v := ?_) rfl (by kernel_rfl) (by kernel_rfl) (by kernel_rfl) (fun _ _ _ h => h) (Or.inl ⟨by rfl, ?_⟩) (by assumption) ?_
        rotate_left
        · (intro w hSw; (try dsimp only at hSw); go_simp; try with_reducible rfl)
        simp only [Act.put, List.getElem_toArray, List.getElem_cons_zero, List.setIfInBounds_toArray, List.set_cons_zero, List.set_cons_succ]
        refine wpAnyH_take (i := 1) (v := ?_) rfl (by kernel_rfl) (by kernel_rfl) (by kernel_rfl) (fun _ _ _ h => h) (Or.inl ⟨by rfl, ?_⟩) (by assumption) ?_
        rotate_left
        · (intro w hSw; (try dsimp only at hSw); go_simp; try with_reducible rfl)
        simp only [Act.put, List.getElem_toArray, List.getElem_cons_zero, List.getElem_cons_succ, List.setIfInBounds_toArray, List.set_cons_zero, List.set_cons_succ]
        refine wpAnyH_take (i := 3) (v := ?_) rfl (by kernel_rfl) (by kernel_rfl) (by kernel_rfl) (fun _ _ _ h => h) (Or.inl ⟨by rfl, ?_⟩) (by assumption) ?_
        rotate_left
        · (intro w hSw; (try dsimp only at hSw); go_simp; try with_reducible rfl)
        simp only [Act.put, List.getElem_toArray, List.getElem_cons_zero, List.getElem_cons_succ, List.setIfInBounds_toArray, List.set_cons_zero, List.set_cons_succ]
        refine wpAnyH_take (i := 4) (v := ?_) rfl (by kernel_rfl) (by kernel_rfl) (by kernel_rfl) (fun _ _ _ h => h) (Or.inl ⟨by rfl, ?_⟩) (by assumption) ?_
        rotate_left
        · (intro w hSw; (try dsimp only at hSw); go_simp; try with_reducible rfl)
        simp only [Act.put, List.getElem_toArray, List.getElem_cons_zero, List.getElem_cons_succ, List.setIfInBounds_toArray, List.set_cons_zero, List.set_cons_succ]
        refine wpAnyH_ready (rs := [2]) (by kernel_rfl) (by simp) ?_
        refine AllReadyH.cons rfl (fun K hK => ?_) AllReadyH.nil
        go_simp
        have hpm := put_mem om gm R.mm k2 v2 d q W5.drew (HP5.out.mm.grown (Below.drew (Below.refl _ _))) (HK5.out.below (Below.drew (Below.refl _ _)) HK5.out.2) (fun e => by have := (HP5.out.lm 1 e).1; omega) sk2 sv2
        rw [HPX0.out] at hpm
        refine hpm.mono ?_
        rintro e w6 ⟨rfl, hm6, ho6⟩
        have e6 : w6.heap[w4.heap.size]? = some (.cells #[Value.string k2, Value.string v2, Value.bool d, Value.int IntKind.i64 q] 29) := (ho6.block _ (heap_lt e5) (fun e => by have := HNO.out _ (.inl e); omega)).trans e5
        have hr6 : RfAt oR w6 gr R i := HP5.out.rf.keep (fun kk hkk e => ho6.block kk hkk (fun e2 => HP5.out.ap kk e2 e))
        go_wp2_with fail
        refine hK.out _ _ (four_cells e6) (fun hHeld2 => ?_)
        clear hK K hpm
        refine wpAnyH_ready (rs := [5]) (by kernel_rfl) (by simp) ?_
        refine AllReadyH.cons rfl (fun K hK => ?_) AllReadyH.nil
        go_simp
        have hpr := refPutM_any oR gr i R k2 v2 d q w6 hr6 (by omega) sk2 sv2
        rw [HPX0.out] at hpr
        refine hpr.mono ?_
        rintro e w7 ⟨rfl, hm7, ho7⟩
        have e7 : w7.heap[w4.heap.size]? = some (.cells #[Value.string k2, Value.string v2, Value.bool d, Value.int IntKind.i64 q] 29) := (ho7.block _ (heap_lt e6) (fun e => by have := HNO.out _ (.inr e); omega)).trans e6
        rw [← putR_mm] at hm6
        obtain ⟨om2, oR2, hP7, hb7, hfar⟩ := (HP5.out.below (Below.drew (Below.refl _ _))).both hm6 ho6 hm7 ho7 hB5
        go_wp2_with fail
        refine hK.out _ _ (four_cells e7) (fun hHeld2 => ?_)
        clear hK K hpr
        refine wpAnyH_take (i := 6) (v := ?_) rfl (by kernel_rfl) (by kernel_rfl) (by kernel_rfl) (fun _ _ _ h => h) (Or.inl ⟨by rfl, ?_⟩) (by assumption) ?_
        rotate_left
        · (intro w hSw; (try dsimp only at hSw); go_simp; try with_reducible rfl)
        simp only [Act.put, List.getElem_toArray, List.getElem_cons_zero, List.getElem_cons_succ, List.setIfInBounds_toArray, List.set_cons_zero, List.set_cons_succ]
        refine wpAnyH_done (by kernel_rfl) ?_ _
        obtain ⟨R2, HR2⟩ : ∃ R2, Hid (putR R (⟨k2, v2, d, q⟩ : E) = R2) := ⟨_, rfl⟩
        rw [HR2.out] at hP7
        have HPX : Hid (Pl B w7 gm gr (i + 1) R2 om2 oR2) := hP7
        have HKX : Hid (KK w7) := (HK5.out.below (Below.drew (Below.refl _ _)) HK5.out.2).below hb7 hk2
        have HWX : Hid (Below B w w7) := (HW5.out.trans ((Below.drew (Below.refl _ _)).mono hB5)).trans hb7
        clear hP7 hb7 hfar hm6 hm7 ho6 ho7 hr6 e5 e6 e7 x5 HP5 HK5 HW5 HPX0 HR2 HNO
        go_wp2_with fail
        obtain ⟨D2, HD2⟩ : ∃ D2, Hid ((cellsOf R2.ch).toArray = D2) := ⟨_, rfl⟩
        have hq2 := equal_dig R2.ch HPX.out.rf.1.chl
        rw [HD2.out] at hq2
        have hgd := guard42
        have HDS : Hid (D2.size = 32) := by show _ = _; rw [← HD2.out, List.size_toArray, cellsOf_length, HPX.out.rf.1.chl]
        obtain ⟨lz, HLZ⟩ : ∃ lz, Hid (R2.last = lz) := ⟨_, rfl⟩
        obtain ⟨nf, HNF⟩ : ∃ nf, Hid ((foldS R2.l).length = nf) := ⟨_, rfl⟩
        have HSD : Hid (∀ W, Below w7.heap.size w7 W → (fun w' => w'.cell? ⟨gr, 1, none⟩ = some (.int .i64 lz) ∧ w'.rangeAt gr 2 D2.toList) W) := fun W hW => by
          obtain ⟨wf, vv, hR⟩ := HPX.out.rf.grown hW
          refine ⟨by rw [← HLZ.out]; exact hR.c1, ?_⟩
          have := rf_range hR.cells
          rw [show D2.toList = cellsOf R2.ch by rw [← HD2.out]]
          exact this
        have HLX : Hid (∀ W, Below w7.heap.size w7 W → Calls Tryd.prog 22 #[.pointer (some ⟨gm, 0, none⟩)] W fun e w' => e = .returned (.int .i64 lz) ∧ w' = W) := fun W hW => by
          have := last_any om2 gm R2.mm W (HPX.out.mm.grown hW)
          rw [show R2.mm.last = lz from HLZ.out] at this
          exact this
        have HCX : Hid (∀ W, Below w7.heap.size w7 W → Calls Tryd.prog 23 #[.pointer (some ⟨gm, 0, none⟩)] W fun e w' => e = .returned (.agg D2) ∧ Below W.heap.size W w') := fun W hW => by
          have := chain_any om2 gm R2.mm W (HPX.out.mm.grown hW)
          rw [show (cellsOf R2.mm.ch).toArray = D2 from HD2.out] at this
          exact this
        have HNX : Hid (∀ W, Below w7.heap.size w7 W → Calls Tryd.prog 24 #[.pointer (some ⟨gm, 0, none⟩)] W fun e w' => e = .returned (.int .i64 (nf : Nat)) ∧ w' = W) := fun W hW => by
          have := len_any om2 gm R2.mm W (HPX.out.mm.grown hW)
          rw [show R2.mm.es.length = nf from HNF.out] at this
          exact this
        have HRX : Hid (∀ W, Below w7.heap.size w7 W → Calls Tryd.prog 19 #[.pointer (some ⟨gr, 0, none⟩), .string ⟨#[]⟩, .string ⟨#[]⟩] W fun e w' => ∃ ao c, e = .returned (.slice ao nf c) ∧ Below W.heap.size W w') := fun W hW => by
          refine (refRangeM_any oR2 gr (i + 1) R2 ⟨#[]⟩ ⟨#[]⟩ W (HPX.out.rf.grown hW) (by omega)).mono ?_
          rintro e w' ⟨v', rfl, ho', hb'⟩
          rw [range_all, HNF.out] at ho'
          obtain ⟨ao', c', rfl, -, -⟩ := own_sl ho'
          exact ⟨ao', c', rfl, hb'⟩
        refine wp_region_held_drew (S := fun w' => w'.cell? ⟨gr, 1, none⟩ = some (.int .i64 lz) ∧ w'.rangeAt gr 2 D2.toList) (by kernel_rfl) (HSD.out _ (Below.drew (Below.refl w7.heap.size w7))) (fun hS => ?_)
        refine wpAnyH_take (i := 0) (v := ?_) rfl (by kernel_rfl) (by kernel_rfl) (by kernel_rfl) (fun _ _ _ h => h) (Or.inl ⟨by rfl, ?_⟩) (by assumption) ?_
        rotate_left
        · (intro w hSw; (try dsimp only at hSw); go_simp; try with_reducible rfl)
        simp only [Act.put, List.getElem_toArray, List.getElem_cons_zero, List.setIfInBounds_toArray, List.set_cons_zero, List.set_cons_succ]
        refine wpAnyH_take (i := 2) (v := ?_) rfl (by kernel_rfl) (by kernel_rfl) (by kernel_rfl) (fun _ _ _ h => h) (Or.inl ⟨by rfl, ?_⟩) (by assumption) ?_
        rotate_left
        · (intro w hSw; (try dsimp only at hSw); go_simp; try with_reducible rfl)
        simp only [Act.put, List.getElem_toArray, List.getElem_cons_zero, List.getElem_cons_succ, List.setIfInBounds_toArray, List.set_cons_zero, List.set_cons_succ]
        refine wpAnyH_take (i := 3) (v := ?_) rfl (by kernel_rfl) (by kernel_rfl) (by kernel_rfl) (fun _ _ _ h => h) (Or.inl ⟨by rfl, ?_⟩) (by assumption) ?_
        rotate_left
        · (intro w hSw; (try dsimp only at hSw); go_simp; try with_reducible rfl)
        simp only [Act.put, List.getElem_toArray, List.getElem_cons_zero, List.getElem_cons_succ, List.setIfInBounds_toArray, List.set_cons_zero, List.set_cons_succ]
        refine wpAnyH_take (i := 4) (v := ?_) rfl (by kernel_rfl) (by kernel_rfl) (by kernel_rfl) (fun _ _ _ h => h) (Or.inl ⟨by rfl, ?_⟩) (by assumption) ?_
        rotate_left
        · (intro w hSw; (try dsimp only at hSw); go_simp; try with_reducible rfl)
        simp only [Act.put, List.getElem_toArray, List.getElem_cons_zero, List.getElem_cons_succ, List.setIfInBounds_toArray, List.set_cons_zero, List.set_cons_succ]
        refine wpAnyH_take (i := 5) (v := ?_) rfl (by kernel_rfl) (by kernel_rfl) (by kernel_rfl) (fun _ _ _ h => h) (Or.inl ⟨by rfl, ?_⟩) (by assumption) ?_
        rotate_left
        · (intro w hSw; (try dsimp only at hSw); go_simp; try with_reducible rfl)
        simp only [Act.put, List.getElem_toArray, List.getElem_cons_zero, List.getElem_cons_succ, List.setIfInBounds_toArray, List.set_cons_zero, List.set_cons_succ]
        refine wpAnyH_ready (rs := [1]) (by kernel_rfl) (by simp) ?_
        refine AllReadyH.cons rfl (fun K hK => ?_) AllReadyH.nil
        go_simp
        refine Calls.mono (HLX.out _ (Below.drew (Below.refl w7.heap.size w7))) ?_
        rintro e wzq ⟨rfl, hwzq⟩
        rw [hwzq]
        clear hwzq
        go_wp2_with fail
        refine hK.out _ _ (HSD.out _ (Below.drew (Below.refl w7.heap.size w7))) (fun hHeld2 => ?_)
        clear hK K
        refine wpAnyH_take (i := 6) (v := ?_) rfl (by kernel_rfl) (by kernel_rfl) (by kernel_rfl) (fun _ _ _ h => h) (Or.inl ⟨by rfl, ?_⟩) (by assumption) ?_
        rotate_left
        · (intro w hSw; (try dsimp only at hSw); go_simp; try with_reducible rfl)
        simp only [Act.put, List.getElem_toArray, List.getElem_cons_zero, List.getElem_cons_succ, List.setIfInBounds_toArray, List.set_cons_zero, List.set_cons_succ]
        refine wpAnyH_take (i := 7) (v := ?_) rfl (by kernel_rfl) (by kernel_rfl) (by kernel_rfl) (fun _ _ _ h => h) (Or.inl ⟨by rfl, ?_⟩) (by assumption) ?_
        rotate_left
        · (intro w hSw; (try dsimp only at hSw); go_simp; try with_reducible rfl)
        simp only [Act.put, List.getElem_toArray, List.getElem_cons_zero, List.getElem_cons_succ, List.setIfInBounds_toArray, List.set_cons_zero, List.set_cons_succ]
        refine wpAnyH_take (i := 8) (v := ?_) rfl (by kernel_rfl) (by kernel_rfl) (by kernel_rfl) (fun _ _ _ h => h) (Or.inl ⟨by rfl, ?_⟩) (by assumption) ?_
        rotate_left
        · (intro w hSw; (try dsimp only at hSw); go_simp; try with_reducible rfl)
        simp only [Act.put, List.getElem_toArray, List.getElem_cons_zero, List.getElem_cons_succ, List.setIfInBounds_toArray, List.set_cons_zero, List.set_cons_succ]
        refine wpAnyH_take (i := 10) (v := ?_) rfl (by kernel_rfl) (by kernel_rfl) (by kernel_rfl) (fun _ _ _ h => h) (Or.inl ⟨by rfl, ?_⟩) (by assumption) ?_
        rotate_left
        · (intro w hSw; (try dsimp only at hSw); go_simp; try with_reducible rfl)
        simp only [Act.put, List.getElem_toArray, List.getElem_cons_zero, List.getElem_cons_succ, List.setIfInBounds_toArray, List.set_cons_zero, List.set_cons_succ]
        refine wpAnyH_take (i := 11) (v := ?_) rfl (by kernel_rfl) (by kernel_rfl) (by kernel_rfl) (fun _ _ _ h => h) (Or.inl ⟨by rfl, ?_⟩) (by assumption) ?_
        rotate_left
        · (intro w hSw; (try dsimp only at hSw); go_simp; try with_reducible rfl)
        simp only [Act.put, List.getElem_toArray, List.getElem_cons_zero, List.getElem_cons_succ, List.setIfInBounds_toArray, List.set_cons_zero, List.set_cons_succ]
        refine wpAnyH_take (i := 12) (v := ?_) rfl (by kernel_rfl) (by kernel_rfl) (by kernel_rfl) (fun _ _ _ h => h) (Or.inl ⟨by rfl, ?_⟩) (by assumption) ?_
        rotate_left
        · (intro w hSw; (try dsimp only at hSw); go_simp; try with_reducible rfl)
        simp only [Act.put, List.getElem_toArray, List.getElem_cons_zero, List.getElem_cons_succ, List.setIfInBounds_toArray, List.set_cons_zero, List.set_cons_succ]
        refine wpAnyH_take (i := 13) (v := .agg D2.toList.toArray) rfl (by kernel_rfl) (by kernel_rfl) (by kernel_rfl) (fun _ _ _ h => h) (yieldsIf_load_mid (by rfl) 42 (.tmp 121) rfl gr 2 rfl D2.toList _ (fun _ h => h.2) Tryd.underlying42 rfl (by rw [size42]; simp [HDS.out])) (by assumption) ?_
        simp only [Act.put, List.getElem_toArray, List.getElem_cons_zero, List.getElem_cons_succ, List.setIfInBounds_toArray, List.set_cons_zero, List.set_cons_succ]
        simp only [Array.toArray_toList]
        refine wpAnyH_ready (rs := [9]) (by kernel_rfl) (by simp) ?_
        refine AllReadyH.cons rfl (fun K hK => ?_) AllReadyH.nil
        go_simp
        refine Calls.mono (HCX.out _ (Below.drew (Below.refl w7.heap.size w7))) ?_
        rintro e y1 ⟨rfl, hy1⟩
        have HCy1 : Hid (Below w7.heap.size w7 y1) := (Below.drew (Below.refl w7.heap.size w7)).trans (hy1.mono (Below.drew (Below.refl w7.heap.size w7)).size)
        clear hy1
        go_wp2_with fail
        refine hK.out _ _ (HSD.out _ HCy1.out) (fun hHeld2 => ?_)
        clear hK K
        refine wpAnyH_take (i := 14) (v := ?_) rfl (by kernel_rfl) (by kernel_rfl) (by kernel_rfl) (fun _ _ _ h => h) (Or.inl ⟨by rfl, ?_⟩) (by assumption) ?_
        rotate_left
        · (intro w hSw; (try dsimp only at hSw); go_simp; try with_reducible rfl)
        simp only [Act.put, List.getElem_toArray, List.getElem_cons_zero, List.getElem_cons_succ, List.setIfInBounds_toArray, List.set_cons_zero, List.set_cons_succ]
        refine wpAnyH_take (i := 15) (v := ?_) rfl (by kernel_rfl) (by kernel_rfl) (by kernel_rfl) (fun _ _ _ h => h) (Or.inl ⟨by rfl, ?_⟩) (by assumption) ?_
        rotate_left
        · (intro w hSw; (try dsimp only at hSw); go_simp; try with_reducible rfl)
        simp only [Act.put, List.getElem_toArray, List.getElem_cons_zero, List.getElem_cons_succ, List.setIfInBounds_toArray, List.set_cons_zero, List.set_cons_succ]
        refine wpAnyH_take (i := 16) (v := ?_) rfl (by kernel_rfl) (by kernel_rfl) (by kernel_rfl) (fun _ _ _ h => h) (Or.inl ⟨by rfl, ?_⟩) (by assumption) ?_
        rotate_left
        · (intro w hSw; (try dsimp only at hSw); go_simp; try with_reducible rfl)
        simp only [Act.put, List.getElem_toArray, List.getElem_cons_zero, List.getElem_cons_succ, List.setIfInBounds_toArray, List.set_cons_zero, List.set_cons_succ]
        refine wpAnyH_take (i := 17) (v := ?_) rfl (by kernel_rfl) (by kernel_rfl) (by kernel_rfl) (fun _ _ _ h => h) (Or.inl ⟨by rfl, ?_⟩) (by assumption) ?_
        rotate_left
        · (intro w hSw; (try dsimp only at hSw); go_simp; try with_reducible rfl)
        simp only [Act.put, List.getElem_toArray, List.getElem_cons_zero, List.getElem_cons_succ, List.setIfInBounds_toArray, List.set_cons_zero, List.set_cons_succ]
        refine wpAnyH_take (i := 19) (v := ?_) rfl (by kernel_rfl) (by kernel_rfl) (by kernel_rfl) (fun _ _ _ h => h) (Or.inl ⟨by rfl, ?_⟩) (by assumption) ?_
        rotate_left
        · (intro w hSw; (try dsimp only at hSw); go_simp; try with_reducible rfl)
        simp only [Act.put, List.getElem_toArray, List.getElem_cons_zero, List.getElem_cons_succ, List.setIfInBounds_toArray, List.set_cons_zero, List.set_cons_succ]
        refine wpAnyH_ready (rs := [18]) (by kernel_rfl) (by simp) ?_
        refine AllReadyH.cons rfl (fun K hK => ?_) AllReadyH.nil
        go_simp
        refine Calls.mono (HNX.out _ HCy1.out) ?_
        rintro e wzq ⟨rfl, hwzq⟩
        rw [hwzq]
        clear hwzq
        go_wp2_with fail
        refine hK.out _ _ (HSD.out _ HCy1.out) (fun hHeld2 => ?_)
        clear hK K
        refine wpAnyH_ready (rs := [20]) (by kernel_rfl) (by simp) ?_
        refine AllReadyH.cons rfl (fun K hK => ?_) AllReadyH.nil
        go_simp
        refine Calls.mono (HRX.out _ HCy1.out) ?_
        rintro e y2 ⟨ao7, c7, rfl, hy2⟩
        have HCy2 : Hid (Below w7.heap.size w7 y2) := HCy1.out.trans (hy2.mono HCy1.out.size)
        clear hy2
        go_wp2_with fail
        refine hK.out _ _ (HSD.out _ HCy2.out) (fun hHeld2 => ?_)
        clear hK K
        refine wpAnyH_take (i := 21) (v := ?_) rfl (by kernel_rfl) (by kernel_rfl) (by kernel_rfl) (fun _ _ _ h => h) (Or.inl ⟨by rfl, ?_⟩) (by assumption) ?_
        rotate_left
        · (intro w hSw; (try dsimp only at hSw); go_simp; try with_reducible rfl)
        simp only [Act.put, List.getElem_toArray, List.getElem_cons_zero, List.getElem_cons_succ, List.setIfInBounds_toArray, List.set_cons_zero, List.set_cons_succ]
        refine wpAnyH_take (i := 22) (v := ?_) rfl (by kernel_rfl) (by kernel_rfl) (by kernel_rfl) (fun _ _ _ h => h) (Or.inl ⟨by rfl, ?_⟩) (by assumption) ?_
        rotate_left
        · (intro w hSw; (try dsimp only at hSw); go_simp; try with_reducible rfl)
        simp only [Act.put, List.getElem_toArray, List.getElem_cons_zero, List.getElem_cons_succ, List.setIfInBounds_toArray, List.set_cons_zero, List.set_cons_succ]
        refine wpAnyH_take (i := 23) (v := ?_) rfl (by kernel_rfl) (by kernel_rfl) (by kernel_rfl) (fun _ _ _ h => h) (Or.inl ⟨by rfl, ?_⟩) (by assumption) ?_
        rotate_left
        · (intro w hSw; (try dsimp only at hSw); go_simp; try with_reducible rfl)
        simp only [Act.put, List.getElem_toArray, List.getElem_cons_zero, List.getElem_cons_succ, List.setIfInBounds_toArray, List.set_cons_zero, List.set_cons_succ]
        refine wpAnyH_done (by kernel_rfl) ?_ _
        have HNXT : Hid (Pl B y2 gm gr (i + 1) R2 om2 oR2 ∧ KK y2 ∧ Below B w y2) := ⟨HPX.out.below HCy2.out, HKX.out.below HCy2.out HKX.out.2, HWX.out.trans (HCy2.out.mono (Nat.le_trans (Nat.le_of_eq HB.out.symm) HWX.out.size))⟩
        clear HPX HKX HWX HSD HLX HCX HNX HRX hq2 HDS HLZ HNF HD2 HCy1 HCy2 HI
        go_wp2
        go_roundw
        case rel => exact ⟨i + 1, _, _, _, by go_num, by omega, by omega, HNXT⟩
        case measure => (try simp [intOf]); omega
      · by_cases hk22 : kd = 2
        · subst hk22
          go_wp2_with fail
          obtain ⟨W3, hW3⟩ : ∃ W3, W3 = wr.alloc (Obj.cells #[Value.int IntKind.i64 2, Value.string k, Value.string v, Value.bool d, Value.int IntKind.i64 q, Value.string lo, Value.string hi] 31) := ⟨_, rfl⟩
          rw [← hW3]
          have hbA : Below wr.heap.size wr W3 := by rw [hW3]; exact bel_alloc wr _
          clear hW3 f0 f1 f2 f3 f4 f5 f6
          have HP5 : Hid (Pl B W3 gm gr i R om oR) := HI.out.1.below hbA
          have HK5 : Hid (KK W3) := HI.out.2.1.below hbA HI.out.2.1.2
          have HW5 : Hid (Below B w W3) := HI.out.2.2.trans (hbA.mono hB0)
          have hB5 : B ≤ W3.heap.size := Nat.le_trans hB0 hbA.size
          clear hbA
          refine (clear_any om gm R.mm W3 HP5.out.mm HK5.out (fun e => by have := (HP5.out.lm 1 e).1; omega)).mono ?_
          rintro e w6 ⟨rfl, hm6, ho6⟩
          have hr6 : RfAt oR w6 gr R i := HP5.out.rf.keep (fun kk hkk e => ho6.block kk hkk (fun e2 => HP5.out.ap kk e2 e))
          go_wp2_with fail
          refine (refClear_any oR gr i R w6 hr6).mono ?_
          rintro e w7 ⟨rfl, hm7, ho7⟩
          have hm6' : MemAt (grow om W3) w6 gm (Rf.mm ⟨[], R.last, noneB⟩) := MemAt.mono hm6 (fun _ _ e => .inl e)
          have hm7' : RfAt (grow oR w6) w7 gr ⟨[], R.last, noneB⟩ (i + 1) := RfAt.mono hm7 (fun _ _ e => .inl e) (Nat.le_succ i)
          obtain ⟨om2, oR2, hP7, hb7, hfar⟩ := HP5.out.both hm6' ho6 hm7' ho7 hB5
          obtain ⟨R2, HR2⟩ : ∃ R2 : Rf, Hid (⟨[], R.last, noneB⟩ = R2) := ⟨_, rfl⟩
          rw [HR2.out] at hP7
          have HPX : Hid (Pl B w7 gm gr (i + 1) R2 om2 oR2) := hP7
          have HKX : Hid (KK w7) := HK5.out.below hb7 hk2
          have HWX : Hid (Below B w w7) := HW5.out.trans hb7
          clear hP7 hb7 hfar hm6 hm7 hm6' hm7' ho6 ho7 hr6 HP5 HK5 HW5 HR2
          go_wp2_with fail
          obtain ⟨D2, HD2⟩ : ∃ D2, Hid ((cellsOf R2.ch).toArray = D2) := ⟨_, rfl⟩
          have hq2 := equal_dig R2.ch HPX.out.rf.1.chl
          rw [HD2.out] at hq2
          have hgd := guard42
          have HDS : Hid (D2.size = 32) := by show _ = _; rw [← HD2.out, List.size_toArray, cellsOf_length, HPX.out.rf.1.chl]
          obtain ⟨lz, HLZ⟩ : ∃ lz, Hid (R2.last = lz) := ⟨_, rfl⟩
          obtain ⟨nf, HNF⟩ : ∃ nf, Hid ((foldS R2.l).length = nf) := ⟨_, rfl⟩
          have HSD : Hid (∀ W, Below w7.heap.size w7 W → (fun w' => w'.cell? ⟨gr, 1, none⟩ = some (.int .i64 lz) ∧ w'.rangeAt gr 2 D2.toList) W) := fun W hW => by
            obtain ⟨wf, vv, hR⟩ := HPX.out.rf.grown hW
            refine ⟨by rw [← HLZ.out]; exact hR.c1, ?_⟩
            have := rf_range hR.cells
            rw [show D2.toList = cellsOf R2.ch by rw [← HD2.out]]
            exact this
          have HLX : Hid (∀ W, Below w7.heap.size w7 W → Calls Tryd.prog 22 #[.pointer (some ⟨gm, 0, none⟩)] W fun e w' => e = .returned (.int .i64 lz) ∧ w' = W) := fun W hW => by
            have := last_any om2 gm R2.mm W (HPX.out.mm.grown hW)
            rw [show R2.mm.last = lz from HLZ.out] at this
            exact this
          have HCX : Hid (∀ W, Below w7.heap.size w7 W → Calls Tryd.prog 23 #[.pointer (some ⟨gm, 0, none⟩)] W fun e w' => e = .returned (.agg D2) ∧ Below W.heap.size W w') := fun W hW => by
            have := chain_any om2 gm R2.mm W (HPX.out.mm.grown hW)
            rw [show (cellsOf R2.mm.ch).toArray = D2 from HD2.out] at this
            exact this
          have HNX : Hid (∀ W, Below w7.heap.size w7 W → Calls Tryd.prog 24 #[.pointer (some ⟨gm, 0, none⟩)] W fun e w' => e = .returned (.int .i64 (nf : Nat)) ∧ w' = W) := fun W hW => by
            have := len_any om2 gm R2.mm W (HPX.out.mm.grown hW)
            rw [show R2.mm.es.length = nf from HNF.out] at this
            exact this
          have HRX : Hid (∀ W, Below w7.heap.size w7 W → Calls Tryd.prog 19 #[.pointer (some ⟨gr, 0, none⟩), .string ⟨#[]⟩, .string ⟨#[]⟩] W fun e w' => ∃ ao c, e = .returned (.slice ao nf c) ∧ Below W.heap.size W w') := fun W hW => by
            refine (refRangeM_any oR2 gr (i + 1) R2 ⟨#[]⟩ ⟨#[]⟩ W (HPX.out.rf.grown hW) (by omega)).mono ?_
            rintro e w' ⟨v', rfl, ho', hb'⟩
            rw [range_all, HNF.out] at ho'
            obtain ⟨ao', c', rfl, -, -⟩ := own_sl ho'
            exact ⟨ao', c', rfl, hb'⟩
          refine wp_region_held_drew (S := fun w' => w'.cell? ⟨gr, 1, none⟩ = some (.int .i64 lz) ∧ w'.rangeAt gr 2 D2.toList) (by kernel_rfl) (HSD.out _ (Below.drew (Below.refl w7.heap.size w7))) (fun hS => ?_)
          refine wpAnyH_take (i := 0) (v := ?_) rfl (by kernel_rfl) (by kernel_rfl) (by kernel_rfl) (fun _ _ _ h => h) (Or.inl ⟨by rfl, ?_⟩) (by assumption) ?_
          rotate_left
          · (intro w hSw; (try dsimp only at hSw); go_simp; try with_reducible rfl)
          simp only [Act.put, List.getElem_toArray, List.getElem_cons_zero, List.setIfInBounds_toArray, List.set_cons_zero, List.set_cons_succ]
          refine wpAnyH_take (i := 2) (v := ?_) rfl (by kernel_rfl) (by kernel_rfl) (by kernel_rfl) (fun _ _ _ h => h) (Or.inl ⟨by rfl, ?_⟩) (by assumption) ?_
          rotate_left
          · (intro w hSw; (try dsimp only at hSw); go_simp; try with_reducible rfl)
          simp only [Act.put, List.getElem_toArray, List.getElem_cons_zero, List.getElem_cons_succ, List.setIfInBounds_toArray, List.set_cons_zero, List.set_cons_succ]
          refine wpAnyH_take (i := 3) (v := ?_) rfl (by kernel_rfl) (by kernel_rfl) (by kernel_rfl) (fun _ _ _ h => h) (Or.inl ⟨by rfl, ?_⟩) (by assumption) ?_
          rotate_left
          · (intro w hSw; (try dsimp only at hSw); go_simp; try with_reducible rfl)
          simp only [Act.put, List.getElem_toArray, List.getElem_cons_zero, List.getElem_cons_succ, List.setIfInBounds_toArray, List.set_cons_zero, List.set_cons_succ]
          refine wpAnyH_take (i := 4) (v := ?_) rfl (by kernel_rfl) (by kernel_rfl) (by kernel_rfl) (fun _ _ _ h => h) (Or.inl ⟨by rfl, ?_⟩) (by assumption) ?_
          rotate_left
          · (intro w hSw; (try dsimp only at hSw); go_simp; try with_reducible rfl)
          simp only [Act.put, List.getElem_toArray, List.getElem_cons_zero, List.getElem_cons_succ, List.setIfInBounds_toArray, List.set_cons_zero, List.set_cons_succ]
          refine wpAnyH_take (i := 5) (v := ?_) rfl (by kernel_rfl) (by kernel_rfl) (by kernel_rfl) (fun _ _ _ h => h) (Or.inl ⟨by rfl, ?_⟩) (by assumption) ?_
          rotate_left
          · (intro w hSw; (try dsimp only at hSw); go_simp; try with_reducible rfl)
          simp only [Act.put, List.getElem_toArray, List.getElem_cons_zero, List.getElem_cons_succ, List.setIfInBounds_toArray, List.set_cons_zero, List.set_cons_succ]
          refine wpAnyH_ready (rs := [1]) (by kernel_rfl) (by simp) ?_
          refine AllReadyH.cons rfl (fun K hK => ?_) AllReadyH.nil
          go_simp
          refine Calls.mono (HLX.out _ (Below.drew (Below.refl w7.heap.size w7))) ?_
          rintro e wzq ⟨rfl, hwzq⟩
          rw [hwzq]
          clear hwzq
          go_wp2_with fail
          refine hK.out _ _ (HSD.out _ (Below.drew (Below.refl w7.heap.size w7))) (fun hHeld2 => ?_)
          clear hK K
          refine wpAnyH_take (i := 6) (v := ?_) rfl (by kernel_rfl) (by kernel_rfl) (by kernel_rfl) (fun _ _ _ h => h) (Or.inl ⟨by rfl, ?_⟩) (by assumption) ?_
          rotate_left
          · (intro w hSw; (try dsimp only at hSw); go_simp; try with_reducible rfl)
          simp only [Act.put, List.getElem_toArray, List.getElem_cons_zero, List.getElem_cons_succ, List.setIfInBounds_toArray, List.set_cons_zero, List.set_cons_succ]
          refine wpAnyH_take (i := 7) (v := ?_) rfl (by kernel_rfl) (by kernel_rfl) (by kernel_rfl) (fun _ _ _ h => h) (Or.inl ⟨by rfl, ?_⟩) (by assumption) ?_
          rotate_left
          · (intro w hSw; (try dsimp only at hSw); go_simp; try with_reducible rfl)
          simp only [Act.put, List.getElem_toArray, List.getElem_cons_zero, List.getElem_cons_succ, List.setIfInBounds_toArray, List.set_cons_zero, List.set_cons_succ]
          refine wpAnyH_take (i := 8) (v := ?_) rfl (by kernel_rfl) (by kernel_rfl) (by kernel_rfl) (fun _ _ _ h => h) (Or.inl ⟨by rfl, ?_⟩) (by assumption) ?_
          rotate_left
          · (intro w hSw; (try dsimp only at hSw); go_simp; try with_reducible rfl)
          simp only [Act.put, List.getElem_toArray, List.getElem_cons_zero, List.getElem_cons_succ, List.setIfInBounds_toArray, List.set_cons_zero, List.set_cons_succ]
          refine wpAnyH_take (i := 10) (v := ?_) rfl (by kernel_rfl) (by kernel_rfl) (by kernel_rfl) (fun _ _ _ h => h) (Or.inl ⟨by rfl, ?_⟩) (by assumption) ?_
          rotate_left
          · (intro w hSw; (try dsimp only at hSw); go_simp; try with_reducible rfl)
          simp only [Act.put, List.getElem_toArray, List.getElem_cons_zero, List.getElem_cons_succ, List.setIfInBounds_toArray, List.set_cons_zero, List.set_cons_succ]
          refine wpAnyH_take (i := 11) (v := ?_) rfl (by kernel_rfl) (by kernel_rfl) (by kernel_rfl) (fun _ _ _ h => h) (Or.inl ⟨by rfl, ?_⟩) (by assumption) ?_
          rotate_left
          · (intro w hSw; (try dsimp only at hSw); go_simp; try with_reducible rfl)
          simp only [Act.put, List.getElem_toArray, List.getElem_cons_zero, List.getElem_cons_succ, List.setIfInBounds_toArray, List.set_cons_zero, List.set_cons_succ]
          refine wpAnyH_take (i := 12) (v := ?_) rfl (by kernel_rfl) (by kernel_rfl) (by kernel_rfl) (fun _ _ _ h => h) (Or.inl ⟨by rfl, ?_⟩) (by assumption) ?_
          rotate_left
          · (intro w hSw; (try dsimp only at hSw); go_simp; try with_reducible rfl)
          simp only [Act.put, List.getElem_toArray, List.getElem_cons_zero, List.getElem_cons_succ, List.setIfInBounds_toArray, List.set_cons_zero, List.set_cons_succ]
          refine wpAnyH_take (i := 13) (v := .agg D2.toList.toArray) rfl (by kernel_rfl) (by kernel_rfl) (by kernel_rfl) (fun _ _ _ h => h) (yieldsIf_load_mid (by rfl) 42 (.tmp 121) rfl gr 2 rfl D2.toList _ (fun _ h => h.2) Tryd.underlying42 rfl (by rw [size42]; simp [HDS.out])) (by assumption) ?_
          simp only [Act.put, List.getElem_toArray, List.getElem_cons_zero, List.getElem_cons_succ, List.setIfInBounds_toArray, List.set_cons_zero, List.set_cons_succ]
          simp only [Array.toArray_toList]
          refine wpAnyH_ready (rs := [9]) (by kernel_rfl) (by simp) ?_
          refine AllReadyH.cons rfl (fun K hK => ?_) AllReadyH.nil
          go_simp
          refine Calls.mono (HCX.out _ (Below.drew (Below.refl w7.heap.size w7))) ?_
          rintro e y1 ⟨rfl, hy1⟩
          have HCy1 : Hid (Below w7.heap.size w7 y1) := (Below.drew (Below.refl w7.heap.size w7)).trans (hy1.mono (Below.drew (Below.refl w7.heap.size w7)).size)
          clear hy1
          go_wp2_with fail
          refine hK.out _ _ (HSD.out _ HCy1.out) (fun hHeld2 => ?_)
          clear hK K
          refine wpAnyH_take (i := 14) (v := ?_) rfl (by kernel_rfl) (by kernel_rfl) (by kernel_rfl) (fun _ _ _ h => h) (Or.inl ⟨by rfl, ?_⟩) (by assumption) ?_
          rotate_left
          · (intro w hSw; (try dsimp only at hSw); go_simp; try with_reducible rfl)
          simp only [Act.put, List.getElem_toArray, List.getElem_cons_zero, List.getElem_cons_succ, List.setIfInBounds_toArray, List.set_cons_zero, List.set_cons_succ]
          refine wpAnyH_take (i := 15) (v := ?_) rfl (by kernel_rfl) (by kernel_rfl) (by kernel_rfl) (fun _ _ _ h => h) (Or.inl ⟨by rfl, ?_⟩) (by assumption) ?_
          rotate_left
          · (intro w hSw; (try dsimp only at hSw); go_simp; try with_reducible rfl)
          simp only [Act.put, List.getElem_toArray, List.getElem_cons_zero, List.getElem_cons_succ, List.setIfInBounds_toArray, List.set_cons_zero, List.set_cons_succ]
          refine wpAnyH_take (i := 16) (v := ?_) rfl (by kernel_rfl) (by kernel_rfl) (by kernel_rfl) (fun _ _ _ h => h) (Or.inl ⟨by rfl, ?_⟩) (by assumption) ?_
          rotate_left
          · (intro w hSw; (try dsimp only at hSw); go_simp; try with_reducible rfl)
          simp only [Act.put, List.getElem_toArray, List.getElem_cons_zero, List.getElem_cons_succ, List.setIfInBounds_toArray, List.set_cons_zero, List.set_cons_succ]
          refine wpAnyH_take (i := 17) (v := ?_) rfl (by kernel_rfl) (by kernel_rfl) (by kernel_rfl) (fun _ _ _ h => h) (Or.inl ⟨by rfl, ?_⟩) (by assumption) ?_
          rotate_left
          · (intro w hSw; (try dsimp only at hSw); go_simp; try with_reducible rfl)
          simp only [Act.put, List.getElem_toArray, List.getElem_cons_zero, List.getElem_cons_succ, List.setIfInBounds_toArray, List.set_cons_zero, List.set_cons_succ]
          refine wpAnyH_take (i := 19) (v := ?_) rfl (by kernel_rfl) (by kernel_rfl) (by kernel_rfl) (fun _ _ _ h => h) (Or.inl ⟨by rfl, ?_⟩) (by assumption) ?_
          rotate_left
          · (intro w hSw; (try dsimp only at hSw); go_simp; try with_reducible rfl)
          simp only [Act.put, List.getElem_toArray, List.getElem_cons_zero, List.getElem_cons_succ, List.setIfInBounds_toArray, List.set_cons_zero, List.set_cons_succ]
          refine wpAnyH_ready (rs := [18]) (by kernel_rfl) (by simp) ?_
          refine AllReadyH.cons rfl (fun K hK => ?_) AllReadyH.nil
          go_simp
          refine Calls.mono (HNX.out _ HCy1.out) ?_
          rintro e wzq ⟨rfl, hwzq⟩
          rw [hwzq]
          clear hwzq
          go_wp2_with fail
          refine hK.out _ _ (HSD.out _ HCy1.out) (fun hHeld2 => ?_)
          clear hK K
          refine wpAnyH_ready (rs := [20]) (by kernel_rfl) (by simp) ?_
          refine AllReadyH.cons rfl (fun K hK => ?_) AllReadyH.nil
          go_simp
          refine Calls.mono (HRX.out _ HCy1.out) ?_
          rintro e y2 ⟨ao7, c7, rfl, hy2⟩
          have HCy2 : Hid (Below w7.heap.size w7 y2) := HCy1.out.trans (hy2.mono HCy1.out.size)
          clear hy2
          go_wp2_with fail
          refine hK.out _ _ (HSD.out _ HCy2.out) (fun hHeld2 => ?_)
          clear hK K
          refine wpAnyH_take (i := 21) (v := ?_) rfl (by kernel_rfl) (by kernel_rfl) (by kernel_rfl) (fun _ _ _ h => h) (Or.inl ⟨by rfl, ?_⟩) (by assumption) ?_
          rotate_left
          · (intro w hSw; (try dsimp only at hSw); go_simp; try with_reducible rfl)
          simp only [Act.put, List.getElem_toArray, List.getElem_cons_zero, List.getElem_cons_succ, List.setIfInBounds_toArray, List.set_cons_zero, List.set_cons_succ]
          refine wpAnyH_take (i := 22) (v := ?_) rfl (by kernel_rfl) (by kernel_rfl) (by kernel_rfl) (fun _ _ _ h => h) (Or.inl ⟨by rfl, ?_⟩) (by assumption) ?_
          rotate_left
          · (intro w hSw; (try dsimp only at hSw); go_simp; try with_reducible rfl)
          simp only [Act.put, List.getElem_toArray, List.getElem_cons_zero, List.getElem_cons_succ, List.setIfInBounds_toArray, List.set_cons_zero, List.set_cons_succ]
          refine wpAnyH_take (i := 23) (v := ?_) rfl (by kernel_rfl) (by kernel_rfl) (by kernel_rfl) (fun _ _ _ h => h) (Or.inl ⟨by rfl, ?_⟩) (by assumption) ?_
          rotate_left
          · (intro w hSw; (try dsimp only at hSw); go_simp; try with_reducible rfl)
          simp only [Act.put, List.getElem_toArray, List.getElem_cons_zero, List.getElem_cons_succ, List.setIfInBounds_toArray, List.set_cons_zero, List.set_cons_succ]
          refine wpAnyH_done (by kernel_rfl) ?_ _
          have HNXT : Hid (Pl B y2 gm gr (i + 1) R2 om2 oR2 ∧ KK y2 ∧ Below B w y2) := ⟨HPX.out.below HCy2.out, HKX.out.below HCy2.out HKX.out.2, HWX.out.trans (HCy2.out.mono (Nat.le_trans (Nat.le_of_eq HB.out.symm) HWX.out.size))⟩
          clear HPX HKX HWX HSD HLX HCX HNX HRX hq2 HDS HLZ HNF HD2 HCy1 HCy2 HI
          go_wp2
          go_roundw
          case rel => exact ⟨i + 1, _, _, _, by go_num, by omega, by omega, HNXT⟩
          case measure => (try simp [intOf]); omega
        · have dk1 : decide (kd = 1) = false := decide_eq_false hk1
          have dk2 : decide (kd = 2) = false := decide_eq_false hk22
          go_wp2_with fail
          obtain ⟨W3, hW3⟩ : ∃ W3, W3 = wr.alloc (Obj.cells #[Value.int IntKind.i64 kd, Value.string k, Value.string v, Value.bool d, Value.int IntKind.i64 q, Value.string lo, Value.string hi] 31) := ⟨_, rfl⟩
          rw [← hW3]
          have hbA : Below wr.heap.size wr W3 := by rw [hW3]; exact bel_alloc wr _
          have e3 : W3.heap[wr.heap.size]? = some (.cells #[Value.int IntKind.i64 kd, Value.string k, Value.string v, Value.bool d, Value.int IntKind.i64 q, Value.string lo, Value.string hi] 31) := by rw [hW3]; exact heap_alloc_new wr _
          clear hW3 f0 f1 f2 f3 f4 f5 f6 hk1 hk22
          have HLO : Hid (∀ W, Below W3.heap.size W3 W → W.cell? ⟨wr.heap.size, 5, none⟩ = some (.string lo) ∧ W.cell? ⟨wr.heap.size, 6, none⟩ = some (.string hi)) := fun W hW => by
            have e4 := (hW.block _ (heap_lt e3)).trans e3
            exact ⟨by rw [cell_of_row _ _ _ _ _ _ e4]; rfl, by rw [cell_of_row _ _ _ _ _ _ e4]; rfl⟩
          have HP5 : Hid (Pl B W3 gm gr i R om oR) := HI.out.1.below hbA
          have HK5 : Hid (KK W3) := HI.out.2.1.below hbA HI.out.2.1.2
          have HW5 : Hid (Below B w W3) := HI.out.2.2.trans (hbA.mono hB0)
          have hB5 : B ≤ W3.heap.size := Nat.le_trans hB0 hbA.size
          clear hbA e3
          obtain ⟨F, HF⟩ : ∃ F, Hid (foldS R.l = F) := ⟨_, rfl⟩
          obtain ⟨X, HX⟩ : ∃ X, Hid (rangeL lo hi F = X) := ⟨_, rfl⟩
          obtain ⟨⟨gk, gv, gd, gq⟩, hgx⟩ : ∃ x, getV lo F = x := ⟨_, rfl⟩
          obtain ⟨gi, hgi⟩ : ∃ x, isIn lo F = x := ⟨_, rfl⟩
          have HXL : Hid (X.length ≤ 64) := by
            have h1 := range_len lo hi F
            have h2 : F.length ≤ 64 := by rw [← HF.out]; exact HP5.out.mm.1.len
            rw [HX.out] at h1
            exact Nat.le_trans h1 h2
          have HRA : Hid (Calls Tryd.prog 17 #[.pointer (some ⟨gm, 0, none⟩), .string lo, .string hi] W3 fun e w' => ∃ v', e = .returned v' ∧ w'.ownsRow W3.heap.size 29 4 v' X.length (flatE X) ∧ Below W3.heap.size W3 w') := by
            have := range_mem om gm R.mm lo hi W3 HP5.out.mm
            rw [show R.mm.es = F from HF.out, HX.out] at this
            exact this
          have HRR : Hid (∀ W, Below W3.heap.size W3 W → Calls Tryd.prog 19 #[.pointer (some ⟨gr, 0, none⟩), .string lo, .string hi] W fun e w' => ∃ v', e = .returned v' ∧ w'.ownsRow W.heap.size 29 4 v' X.length (flatE X) ∧ Below W.heap.size W w') := fun W hW => by
            have := refRangeM_any oR gr i R lo hi W (HP5.out.rf.grown hW) (by omega)
            rw [HF.out, HX.out] at this
            exact this
          have HGA : Hid (∀ W, Below W3.heap.size W3 W → Calls Tryd.prog 20 #[.pointer (some ⟨gm, 0, none⟩), .string lo] W fun e w' => e = .returned (.tuple #[.agg #[.string gk, .string gv, .bool gd, .int .i64 gq], .bool gi]) ∧ Below W.heap.size W w') := fun W hW => by
            have := get_mem om gm R.mm lo W (HP5.out.mm.grown hW)
            rw [show R.mm.es = F from HF.out, hgx, hgi] at this
            exact this
          have HGR : Hid (∀ W, Below W3.heap.size W3 W → Calls Tryd.prog 21 #[.pointer (some ⟨gr, 0, none⟩), .string lo] W fun e w' => e = .returned (.tuple #[.agg #[.string gk, .string gv, .bool gd, .int .i64 gq], .bool gi]) ∧ Below W.heap.size W w') := fun W hW => by
            have := refGetM_any oR gr i R lo W (HP5.out.rf.grown hW) (by omega)
            rw [HF.out, hgx, hgi] at this
            exact this
          clear hgx hgi HX HF HI
          refine HRA.out.mono ?_
          rintro e w4 ⟨v4, rfl, ho4, hb4⟩
          obtain ⟨ao4, c4, rfl, he4, h04⟩ := own_sl ho4
          have HO4 : Hid (w4.ownsRow W3.heap.size 29 4 (.slice ao4 X.length c4) X.length (flatE X)) := ho4
          obtain ⟨l5, l6⟩ := HLO.out _ hb4
          clear ho4
          go_wp2_with fail
          refine (HRR.out w4 hb4).mono ?_
          rintro e w5 ⟨v5, rfl, ho5, hb5⟩
          obtain ⟨ao5, c5, rfl, he5, -⟩ := own_sl ho5
          have he45 := he4.below hb5 (Nat.le_refl _)
          have HB5 : Hid (Below w4.heap.size w4 w5) := hb5
          have HB4 : Hid (Below W3.heap.size W3 w4) := hb4
          clear ho5 he4 hb4 hb5 l5 l6 HRA HRR
          go_wp2_with fail
          have hXL := HXL.out
          refine (same_any ao4 X.length c4 X ao5 X.length c5 X w5 he45 he5 (by omega) (by omega)).mono ?_
          rintro e w6 ⟨rfl, hb6⟩
          rw [decide_eq_true rfl]
          clear he45 he5
          have HB6 : Hid (Below w4.heap.size w4 w6) := HB5.out.trans (hb6.mono HB5.out.size)
          have HC6 : Hid (Below W3.heap.size W3 w6) := HB4.out.trans (HB6.out.mono HB4.out.size)
          obtain ⟨l5, l6⟩ := HLO.out _ HC6.out
          clear hb6 HB5
          go_wp2_with fail
          refine (HGA.out w6 HC6.out).mono ?_
          rintro e w7 ⟨rfl, hb7⟩
          have HB7 : Hid (Below w4.heap.size w4 w7) := HB6.out.trans (hb7.mono HB6.out.size)
          have HC7 : Hid (Below W3.heap.size W3 w7) := HB4.out.trans (HB7.out.mono HB4.out.size)
          clear l5 l6
          obtain ⟨l5, l6⟩ := HLO.out (w7.alloc (Obj.cells #[Value.string gk, Value.string gv, Value.bool gd, Value.int IntKind.i64 gq] 29)) (HC7.out.trans ((bel_alloc w7 _).mono HC7.out.size))
          clear hb7 HB6 HC6
          go_wp2_with fail
          obtain ⟨W8, hW8⟩ : ∃ W8, W8 = w7.alloc (Obj.cells #[Value.string gk, Value.string gv, Value.bool gd, Value.int IntKind.i64 gq] 29) := ⟨_, rfl⟩
          rw [← hW8]
          have e8 : W8.heap[w7.heap.size]? = some (.cells #[Value.string gk, Value.string gv, Value.bool gd, Value.int IntKind.i64 gq] 29) := by rw [hW8]; exact heap_alloc_new w7 _
          have HB8 : Hid (Below w4.heap.size w4 W8) := by rw [hW8]; exact HB7.out.trans ((bel_alloc w7 _).mono HB7.out.size)
          have HC8 : Hid (Below W3.heap.size W3 W8) := HB4.out.trans (HB8.out.mono HB4.out.size)
          clear hW8 l5 l6
          refine (HGR.out W8 HC8.out).mono ?_
          rintro e w9 ⟨rfl, hb9⟩
          have HB9 : Hid (Below w4.heap.size w4 w9) := HB8.out.trans (hb9.mono HB8.out.size)
          have e9 : w9.heap[w7.heap.size]? = some (.cells #[Value.string gk, Value.string gv, Value.bool gd, Value.int IntKind.i64 gq] 29) := (hb9.block _ (heap_lt e8)).trans e8
          clear hb9 HB8 HC8 HC7 HB7 e8 HGA HGR
          obtain ⟨W10, hW10⟩ : ∃ W10, W10 = w9.alloc (Obj.cells #[Value.string gk, Value.string gv, Value.bool gd, Value.int IntKind.i64 gq] 29) := ⟨_, rfl⟩
          have hbx := bel_alloc w9 (Obj.cells #[Value.string gk, Value.string gv, Value.bool gd, Value.int IntKind.i64 gq] 29)
          have e10 : W10.heap[w9.heap.size]? = some (.cells #[Value.string gk, Value.string gv, Value.bool gd, Value.int IntKind.i64 gq] 29) := by rw [hW10]; exact heap_alloc_new w9 _
          have e10b : W10.heap[w7.heap.size]? = some (.cells #[Value.string gk, Value.string gv, Value.bool gd, Value.int IntKind.i64 gq] 29) := by rw [hW10]; exact (hbx.block _ (heap_lt e9)).trans e9
          have HB10 : Hid (Below w4.heap.size w4 W10) := by rw [hW10]; exact HB9.out.trans (hbx.mono HB9.out.size)
          clear hbx HB9 e9
          obtain ⟨t0, t1, t2, t3⟩ := four_cells e10
          obtain ⟨y0, y1, y2, y3⟩ := four_cells e10b
          rw [hW10] at t0 t1 t2 t3 y0 y1 y2 y3
          have heq := fun w => equal23 gk gv gd gq gk gv gd gq w
          simp only [decide_true] at heq
          have hgd := guard23
          clear e10 e10b
          go_wp2_with fail
          rw [← hW10]
          clear hW10 t0 t1 t2 t3 y0 y1 y2 y3
          obtain ⟨nx, HNX⟩ : ∃ nx, Hid (X.length = nx) := ⟨_, rfl⟩
          have HRW : Hid ((∃ xs, W10.ownsRow W3.heap.size 29 4 (.slice ao4 nx c4) nx xs) ∧ Below W3.heap.size W3 W10) := by
            have h1 := row_block HO4.out (fun k hk => HB10.out.block k (HO4.out.lt k hk).2)
            rw [HNX.out] at h1
            exact ⟨⟨_, h1⟩, HB4.out.trans (HB10.out.mono HB4.out.size)⟩
          rw [HNX.out] at hXL
          rw [HNX.out]
          clear HO4 HB10 HB4 heq hgd h04 HXL HLO HNX dk1 dk2
          go_loopw [15] (fun x15 wz => ∃ j : Nat, x15 = .int .i64 (j : Nat) ∧ j ≤ nx ∧ Hid ((∃ xs, wz.ownsRow W3.heap.size 29 4 (.slice ao4 nx c4) nx xs) ∧ Below W3.heap.size W3 wz)) (fun x _ => nx - (intOf x).toNat)
          case atStart => exact ⟨0, rfl, by omega, HRW.out⟩
          case round =>
            rename World => wz
            obtain ⟨j, rfl, hj, HQ⟩ := hrel
            clear HRW
            by_cases hjn : j < nx
            · have hz4 : (j : Int) < (nx : Int) := by omega
              obtain ⟨⟨xs, ho⟩, hbz⟩ := HQ.out
              rcases ho.2 with ⟨h', h0⟩ | ⟨g, cap', cur, h', hgb, hg, -⟩
              · omega
              simp only [Value.slice.injEq, true_and] at h'
              obtain ⟨rfl, rfl⟩ := h'
              have hxl := ho.1
              have hcell : wz.cell? ⟨g, j * 4, none⟩ = some xs[j * 4]! := by
                rw [ho.cellAt (j * 4) (by omega), getElem!_pos xs (j * 4) (by omega), List.getElem?_eq_getElem]
              have hfz := ho.frozenAt (j * 4)
              obtain ⟨hst, hgr⟩ := ho.stored (j * 4) (.string ⟨#[63]⟩)
              have HN2 : Hid ((∃ xs, (wz.setCell ⟨g, j * 4, none⟩ (.string ⟨#[63]⟩)).ownsRow W3.heap.size 29 4 (.slice (some ⟨g, 0, none⟩) nx c4) nx xs) ∧ Below W3.heap.size W3 (wz.setCell ⟨g, j * 4, none⟩ (.string ⟨#[63]⟩))) :=
                ⟨⟨_, hst⟩, hgr.os.trans hbz.os, hgr.tape.trans hbz.tape, hgr.output.trans hbz.output, Nat.le_trans hbz.size hgr.size, fun k hk => (hgr.block k (Nat.lt_of_lt_of_le hk hbz.size) (fun e => by cases e; omega)).trans (hbz.block k hk)⟩
              clear hst hgr ho hbz hg hgb HQ hxl
              go_wp2
              go_roundw
              case rel => exact ⟨j + 1, by go_num, by omega, HN2⟩
              case measure => (try simp [intOf]); omega
            · have hz4 : ¬ ((j : Int) < (nx : Int)) := by omega
              have HPX : Hid (Pl B wz gm gr (i + 1) R om oR) := by
                have p := HP5.out.below HQ.out.2
                exact ⟨p.mm, p.rf.mono (fun _ _ e => e) (Nat.le_succ i), p.lm, p.lr, p.ap⟩
              have HKX : Hid (KK wz) := HK5.out.below HQ.out.2 HK5.out.2
              have HWX : Hid (Below B w wz) := HW5.out.trans (HQ.out.2.mono hB5)
              clear HP5 HK5 HW5 HQ
              go_wp2_with fail
              obtain ⟨D2, HD2⟩ : ∃ D2, Hid ((cellsOf R.ch).toArray = D2) := ⟨_, rfl⟩
              have hq2 := equal_dig R.ch HPX.out.rf.1.chl
              rw [HD2.out] at hq2
              have hgd := guard42
              have HDS : Hid (D2.size = 32) := by show _ = _; rw [← HD2.out, List.size_toArray, cellsOf_length, HPX.out.rf.1.chl]
              obtain ⟨lz, HLZ⟩ : ∃ lz, Hid (R.last = lz) := ⟨_, rfl⟩
              obtain ⟨nf, HNF⟩ : ∃ nf, Hid ((foldS R.l).length = nf) := ⟨_, rfl⟩
              have HSD : Hid (∀ W, Below wz.heap.size wz W → (fun w' => w'.cell? ⟨gr, 1, none⟩ = some (.int .i64 lz) ∧ w'.rangeAt gr 2 D2.toList) W) := fun W hW => by
                obtain ⟨wf, vv, hR⟩ := HPX.out.rf.grown hW
                refine ⟨by rw [← HLZ.out]; exact hR.c1, ?_⟩
                have := rf_range hR.cells
                rw [show D2.toList = cellsOf R.ch by rw [← HD2.out]]
                exact this
              have HLX : Hid (∀ W, Below wz.heap.size wz W → Calls Tryd.prog 22 #[.pointer (some ⟨gm, 0, none⟩)] W fun e w' => e = .returned (.int .i64 lz) ∧ w' = W) := fun W hW => by
                have := last_any om gm R.mm W (HPX.out.mm.grown hW)
                rw [show R.mm.last = lz from HLZ.out] at this
                exact this
              have HCX : Hid (∀ W, Below wz.heap.size wz W → Calls Tryd.prog 23 #[.pointer (some ⟨gm, 0, none⟩)] W fun e w' => e = .returned (.agg D2) ∧ Below W.heap.size W w') := fun W hW => by
                have := chain_any om gm R.mm W (HPX.out.mm.grown hW)
                rw [show (cellsOf R.mm.ch).toArray = D2 from HD2.out] at this
                exact this
              have HNX : Hid (∀ W, Below wz.heap.size wz W → Calls Tryd.prog 24 #[.pointer (some ⟨gm, 0, none⟩)] W fun e w' => e = .returned (.int .i64 (nf : Nat)) ∧ w' = W) := fun W hW => by
                have := len_any om gm R.mm W (HPX.out.mm.grown hW)
                rw [show R.mm.es.length = nf from HNF.out] at this
                exact this
              have HRX : Hid (∀ W, Below wz.heap.size wz W → Calls Tryd.prog 19 #[.pointer (some ⟨gr, 0, none⟩), .string ⟨#[]⟩, .string ⟨#[]⟩] W fun e w' => ∃ ao c, e = .returned (.slice ao nf c) ∧ Below W.heap.size W w') := fun W hW => by
                refine (refRangeM_any oR gr (i + 1) R ⟨#[]⟩ ⟨#[]⟩ W (HPX.out.rf.grown hW) (by omega)).mono ?_
                rintro e w' ⟨v', rfl, ho', hb'⟩
                rw [range_all, HNF.out] at ho'
                obtain ⟨ao', c', rfl, -, -⟩ := own_sl ho'
                exact ⟨ao', c', rfl, hb'⟩
              refine wp_region_held_drew (S := fun w' => w'.cell? ⟨gr, 1, none⟩ = some (.int .i64 lz) ∧ w'.rangeAt gr 2 D2.toList) (by kernel_rfl) (HSD.out _ (Below.drew (Below.refl wz.heap.size wz))) (fun hS => ?_)
              refine wpAnyH_take (i := 0) (v := ?_) rfl (by kernel_rfl) (by kernel_rfl) (by kernel_rfl) (fun _ _ _ h => h) (Or.inl ⟨by rfl, ?_⟩) (by assumption) ?_
              rotate_left
              · (intro w hSw; (try dsimp only at hSw); go_simp; try with_reducible rfl)
              simp only [Act.put, List.getElem_toArray, List.getElem_cons_zero, List.setIfInBounds_toArray, List.set_cons_zero, List.set_cons_succ]
              refine wpAnyH_take (i := 2) (v := ?_) rfl (by kernel_rfl) (by kernel_rfl) (by kernel_rfl) (fun _ _ _ h => h) (Or.inl ⟨by rfl, ?_⟩) (by assumption) ?_
              rotate_left
              · (intro w hSw; (try dsimp only at hSw); go_simp; try with_reducible rfl)
              simp only [Act.put, List.getElem_toArray, List.getElem_cons_zero, List.getElem_cons_succ, List.setIfInBounds_toArray, List.set_cons_zero, List.set_cons_succ]
              refine wpAnyH_take (i := 3) (v := ?_) rfl (by kernel_rfl) (by kernel_rfl) (by kernel_rfl) (fun _ _ _ h => h) (Or.inl ⟨by rfl, ?_⟩) (by assumption) ?_
              rotate_left
              · (intro w hSw; (try dsimp only at hSw); go_simp; try with_reducible rfl)
              simp only [Act.put, List.getElem_toArray, List.getElem_cons_zero, List.getElem_cons_succ, List.setIfInBounds_toArray, List.set_cons_zero, List.set_cons_succ]
              refine wpAnyH_take (i := 4) (v := ?_) rfl (by kernel_rfl) (by kernel_rfl) (by kernel_rfl) (fun _ _ _ h => h) (Or.inl ⟨by rfl, ?_⟩) (by assumption) ?_
              rotate_left
              · (intro w hSw; (try dsimp only at hSw); go_simp; try with_reducible rfl)
              simp only [Act.put, List.getElem_toArray, List.getElem_cons_zero, List.getElem_cons_succ, List.setIfInBounds_toArray, List.set_cons_zero, List.set_cons_succ]
              refine wpAnyH_take (i := 5) (v := ?_) rfl (by kernel_rfl) (by kernel_rfl) (by kernel_rfl) (fun _ _ _ h => h) (Or.inl ⟨by rfl, ?_⟩) (by assumption) ?_
              rotate_left
              · (intro w hSw; (try dsimp only at hSw); go_simp; try with_reducible rfl)
              simp only [Act.put, List.getElem_toArray, List.getElem_cons_zero, List.getElem_cons_succ, List.setIfInBounds_toArray, List.set_cons_zero, List.set_cons_succ]
              refine wpAnyH_ready (rs := [1]) (by kernel_rfl) (by simp) ?_
              refine AllReadyH.cons rfl (fun K hK => ?_) AllReadyH.nil
              go_simp
              refine Calls.mono (HLX.out _ (Below.drew (Below.refl wz.heap.size wz))) ?_
              rintro e wzq ⟨rfl, hwzq⟩
              rw [hwzq]
              clear hwzq
              go_wp2_with fail
              refine hK.out _ _ (HSD.out _ (Below.drew (Below.refl wz.heap.size wz))) (fun hHeld2 => ?_)
              clear hK K
              refine wpAnyH_take (i := 6) (v := ?_) rfl (by kernel_rfl) (by kernel_rfl) (by kernel_rfl) (fun _ _ _ h => h) (Or.inl ⟨by rfl, ?_⟩) (by assumption) ?_
              rotate_left
              · (intro w hSw; (try dsimp only at hSw); go_simp; try with_reducible rfl)
              simp only [Act.put, List.getElem_toArray, List.getElem_cons_zero, List.getElem_cons_succ, List.setIfInBounds_toArray, List.set_cons_zero, List.set_cons_succ]
              refine wpAnyH_take (i := 7) (v := ?_) rfl (by kernel_rfl) (by kernel_rfl) (by kernel_rfl) (fun _ _ _ h => h) (Or.inl ⟨by rfl, ?_⟩) (by assumption) ?_
              rotate_left
              · (intro w hSw; (try dsimp only at hSw); go_simp; try with_reducible rfl)
              simp only [Act.put, List.getElem_toArray, List.getElem_cons_zero, List.getElem_cons_succ, List.setIfInBounds_toArray, List.set_cons_zero, List.set_cons_succ]
              refine wpAnyH_take (i := 8) (v := ?_) rfl (by kernel_rfl) (by kernel_rfl) (by kernel_rfl) (fun _ _ _ h => h) (Or.inl ⟨by rfl, ?_⟩) (by assumption) ?_
              rotate_left
              · (intro w hSw; (try dsimp only at hSw); go_simp; try with_reducible rfl)
              simp only [Act.put, List.getElem_toArray, List.getElem_cons_zero, List.getElem_cons_succ, List.setIfInBounds_toArray, List.set_cons_zero, List.set_cons_succ]
              refine wpAnyH_take (i := 10) (v := ?_) rfl (by kernel_rfl) (by kernel_rfl) (by kernel_rfl) (fun _ _ _ h => h) (Or.inl ⟨by rfl, ?_⟩) (by assumption) ?_
              rotate_left
              · (intro w hSw; (try dsimp only at hSw); go_simp; try with_reducible rfl)
              simp only [Act.put, List.getElem_toArray, List.getElem_cons_zero, List.getElem_cons_succ, List.setIfInBounds_toArray, List.set_cons_zero, List.set_cons_succ]
              refine wpAnyH_take (i := 11) (v := ?_) rfl (by kernel_rfl) (by kernel_rfl) (by kernel_rfl) (fun _ _ _ h => h) (Or.inl ⟨by rfl, ?_⟩) (by assumption) ?_
              rotate_left
              · (intro w hSw; (try dsimp only at hSw); go_simp; try with_reducible rfl)
              simp only [Act.put, List.getElem_toArray, List.getElem_cons_zero, List.getElem_cons_succ, List.setIfInBounds_toArray, List.set_cons_zero, List.set_cons_succ]
              refine wpAnyH_take (i := 12) (v := ?_) rfl (by kernel_rfl) (by kernel_rfl) (by kernel_rfl) (fun _ _ _ h => h) (Or.inl ⟨by rfl, ?_⟩) (by assumption) ?_
              rotate_left
              · (intro w hSw; (try dsimp only at hSw); go_simp; try with_reducible rfl)
              simp only [Act.put, List.getElem_toArray, List.getElem_cons_zero, List.getElem_cons_succ, List.setIfInBounds_toArray, List.set_cons_zero, List.set_cons_succ]
              refine wpAnyH_take (i := 13) (v := .agg D2.toList.toArray) rfl (by kernel_rfl) (by kernel_rfl) (by kernel_rfl) (fun _ _ _ h => h) (yieldsIf_load_mid (by rfl) 42 (.tmp 121) rfl gr 2 rfl D2.toList _ (fun _ h => h.2) Tryd.underlying42 rfl (by rw [size42]; simp [HDS.out])) (by assumption) ?_
              simp only [Act.put, List.getElem_toArray, List.getElem_cons_zero, List.getElem_cons_succ, List.setIfInBounds_toArray, List.set_cons_zero, List.set_cons_succ]
              simp only [Array.toArray_toList]
              refine wpAnyH_ready (rs := [9]) (by kernel_rfl) (by simp) ?_
              refine AllReadyH.cons rfl (fun K hK => ?_) AllReadyH.nil
              go_simp
              refine Calls.mono (HCX.out _ (Below.drew (Below.refl wz.heap.size wz))) ?_
              rintro e y1 ⟨rfl, hy1⟩
              have HCy1 : Hid (Below wz.heap.size wz y1) := (Below.drew (Below.refl wz.heap.size wz)).trans (hy1.mono (Below.drew (Below.refl wz.heap.size wz)).size)
              clear hy1
              go_wp2_with fail
              refine hK.out _ _ (HSD.out _ HCy1.out) (fun hHeld2 => ?_)
              clear hK K
              refine wpAnyH_take (i := 14) (v := ?_) rfl (by kernel_rfl) (by kernel_rfl) (by kernel_rfl) (fun _ _ _ h => h) (Or.inl ⟨by rfl, ?_⟩) (by assumption) ?_
              rotate_left
              · (intro w hSw; (try dsimp only at hSw); go_simp; try with_reducible rfl)
              simp only [Act.put, List.getElem_toArray, List.getElem_cons_zero, List.getElem_cons_succ, List.setIfInBounds_toArray, List.set_cons_zero, List.set_cons_succ]
              refine wpAnyH_take (i := 15) (v := ?_) rfl (by kernel_rfl) (by kernel_rfl) (by kernel_rfl) (fun _ _ _ h => h) (Or.inl ⟨by rfl, ?_⟩) (by assumption) ?_
              rotate_left
              · (intro w hSw; (try dsimp only at hSw); go_simp; try with_reducible rfl)
              simp only [Act.put, List.getElem_toArray, List.getElem_cons_zero, List.getElem_cons_succ, List.setIfInBounds_toArray, List.set_cons_zero, List.set_cons_succ]
              refine wpAnyH_take (i := 16) (v := ?_) rfl (by kernel_rfl) (by kernel_rfl) (by kernel_rfl) (fun _ _ _ h => h) (Or.inl ⟨by rfl, ?_⟩) (by assumption) ?_
              rotate_left
              · (intro w hSw; (try dsimp only at hSw); go_simp; try with_reducible rfl)
              simp only [Act.put, List.getElem_toArray, List.getElem_cons_zero, List.getElem_cons_succ, List.setIfInBounds_toArray, List.set_cons_zero, List.set_cons_succ]
              refine wpAnyH_take (i := 17) (v := ?_) rfl (by kernel_rfl) (by kernel_rfl) (by kernel_rfl) (fun _ _ _ h => h) (Or.inl ⟨by rfl, ?_⟩) (by assumption) ?_
              rotate_left
              · (intro w hSw; (try dsimp only at hSw); go_simp; try with_reducible rfl)
              simp only [Act.put, List.getElem_toArray, List.getElem_cons_zero, List.getElem_cons_succ, List.setIfInBounds_toArray, List.set_cons_zero, List.set_cons_succ]
              refine wpAnyH_take (i := 19) (v := ?_) rfl (by kernel_rfl) (by kernel_rfl) (by kernel_rfl) (fun _ _ _ h => h) (Or.inl ⟨by rfl, ?_⟩) (by assumption) ?_
              rotate_left
              · (intro w hSw; (try dsimp only at hSw); go_simp; try with_reducible rfl)
              simp only [Act.put, List.getElem_toArray, List.getElem_cons_zero, List.getElem_cons_succ, List.setIfInBounds_toArray, List.set_cons_zero, List.set_cons_succ]
              refine wpAnyH_ready (rs := [18]) (by kernel_rfl) (by simp) ?_
              refine AllReadyH.cons rfl (fun K hK => ?_) AllReadyH.nil
              go_simp
              refine Calls.mono (HNX.out _ HCy1.out) ?_
              rintro e wzq ⟨rfl, hwzq⟩
              rw [hwzq]
              clear hwzq
              go_wp2_with fail
              refine hK.out _ _ (HSD.out _ HCy1.out) (fun hHeld2 => ?_)
              clear hK K
              refine wpAnyH_ready (rs := [20]) (by kernel_rfl) (by simp) ?_
              refine AllReadyH.cons rfl (fun K hK => ?_) AllReadyH.nil
              go_simp
              refine Calls.mono (HRX.out _ HCy1.out) ?_
              rintro e y2 ⟨ao7, c7, rfl, hy2⟩
              have HCy2 : Hid (Below wz.heap.size wz y2) := HCy1.out.trans (hy2.mono HCy1.out.size)
              clear hy2
              go_wp2_with fail
              refine hK.out _ _ (HSD.out _ HCy2.out) (fun hHeld2 => ?_)
              clear hK K
              refine wpAnyH_take (i := 21) (v := ?_) rfl (by kernel_rfl) (by kernel_rfl) (by kernel_rfl) (fun _ _ _ h => h) (Or.inl ⟨by rfl, ?_⟩) (by assumption) ?_
              rotate_left
              · (intro w hSw; (try dsimp only at hSw); go_simp; try with_reducible rfl)
              simp only [Act.put, List.getElem_toArray, List.getElem_cons_zero, List.getElem_cons_succ, List.setIfInBounds_toArray, List.set_cons_zero, List.set_cons_succ]
              refine wpAnyH_take (i := 22) (v := ?_) rfl (by kernel_rfl) (by kernel_rfl) (by kernel_rfl) (fun _ _ _ h => h) (Or.inl ⟨by rfl, ?_⟩) (by assumption) ?_
              rotate_left
              · (intro w hSw; (try dsimp only at hSw); go_simp; try with_reducible rfl)
              simp only [Act.put, List.getElem_toArray, List.getElem_cons_zero, List.getElem_cons_succ, List.setIfInBounds_toArray, List.set_cons_zero, List.set_cons_succ]
              refine wpAnyH_take (i := 23) (v := ?_) rfl (by kernel_rfl) (by kernel_rfl) (by kernel_rfl) (fun _ _ _ h => h) (Or.inl ⟨by rfl, ?_⟩) (by assumption) ?_
              rotate_left
              · (intro w hSw; (try dsimp only at hSw); go_simp; try with_reducible rfl)
              simp only [Act.put, List.getElem_toArray, List.getElem_cons_zero, List.getElem_cons_succ, List.setIfInBounds_toArray, List.set_cons_zero, List.set_cons_succ]
              refine wpAnyH_done (by kernel_rfl) ?_ _
              have HNXT : Hid (Pl B y2 gm gr (i + 1) R om oR ∧ KK y2 ∧ Below B w y2) := ⟨HPX.out.below HCy2.out, HKX.out.below HCy2.out HKX.out.2, HWX.out.trans (HCy2.out.mono (Nat.le_trans (Nat.le_of_eq HB.out.symm) HWX.out.size))⟩
              clear HPX HKX HWX HSD HLX HCX HNX HRX hq2 HDS HLZ HNF HD2 HCy1 HCy2
              go_wp2
              go_roundw
              case rel => exact ⟨i + 1, _, _, _, by go_num, by omega, by omega, HNXT⟩
              case measure => (try simp [intOf]); omega
    · have hBr : B ≤ wr.heap.size := Nat.le_trans (Nat.le_of_eq HB.out.symm) HI.out.2.2.size
      obtain ⟨F, HF⟩ : ∃ F, Hid (foldS R.l = F) := ⟨_, rfl⟩
      have HAL : Hid (Calls Tryd.prog 25 #[.pointer (some ⟨gm, 0, none⟩)] wr fun e w' => ∃ v', e = .returned v' ∧ w'.ownsRow wr.heap.size 29 4 v' F.length (flatE F) ∧ Below wr.heap.size wr w') := by
        have := all_mem om gm R.mm wr HI.out.1.mm
        rw [show R.mm.es = F from HF.out] at this
        exact this
      have HFL : Hid (F.length ≤ 64) := by show _ ≤ _; rw [← HF.out]; exact HI.out.1.mm.1.len
      have HRX : Hid (∀ W, Below wr.heap.size wr W → Calls Tryd.prog 19 #[.pointer (some ⟨gr, 0, none⟩), .string ⟨#[]⟩, .string ⟨#[]⟩] W fun e w' => ∃ v', e = .returned v' ∧ w'.ownsRow W.heap.size 29 4 v' F.length (flatE F) ∧ Below W.heap.size W w') := fun W hW => by
        have := refRangeM_any oR gr i R ⟨#[]⟩ ⟨#[]⟩ W (HI.out.1.rf.grown hW) (by omega)
        rw [range_all, HF.out] at this
        exact this
      have HWE : Hid (Below B w wr) := HI.out.2.2
      clear HI HF
      by_cases hni : i < n
      · have hz1 : (i : Int) < (n : Int) := by omega
        have hz2 : ¬ ((i : Int) < 150) := by omega
        have dz2 : decide ((i : Int) < 150) = false := decide_eq_false hz2
        clear hin hni
        go_wp2_with fail
        refine HAL.out.mono ?_
        rintro e w4 ⟨v4, rfl, ho4, hb4⟩
        obtain ⟨ao4, c4, rfl, he4, -⟩ := own_sl ho4
        go_wp2_with fail
        refine (HRX.out w4 hb4).mono ?_
        rintro e w5 ⟨v5, rfl, ho5, hb5⟩
        obtain ⟨ao5, c5, rfl, he5, -⟩ := own_sl ho5
        have he45 := he4.below hb5 (Nat.le_refl _)
        have hB4 := Nat.le_trans hBr hb4.size
        have hbw5 : Below B w w5 := (HWE.out.trans (hb4.mono hBr)).trans (hb5.mono hB4)
        have hB5 := Nat.le_trans hB4 hb5.size
        have hFL := HFL.out
        clear ho4 ho5 he4 hb4 hb5 HAL HRX HWE
        go_wp2_with fail
        refine (same_any ao4 F.length c4 F ao5 F.length c5 F w5 he45 he5 (by omega) (by omega)).mono ?_
        rintro e w6 ⟨rfl, hb6⟩
        rw [decide_eq_true rfl]
        clear he45 he5
        go_wp2
        go_ret
        exact ⟨rfl, hbw5.trans (hb6.mono hB5)⟩
      · have hz1 : ¬ ((i : Int) < (n : Int)) := by omega
        have dz1 : decide ((i : Int) < (n : Int)) = false := decide_eq_false hz1
        have dz3 : decide (i < n) = false := decide_eq_false hni
        clear hin hni
        go_wp2_with fail
        refine HAL.out.mono ?_
        rintro e w4 ⟨v4, rfl, ho4, hb4⟩
        obtain ⟨ao4, c4, rfl, he4, -⟩ := own_sl ho4
        go_wp2_with fail
        refine (HRX.out w4 hb4).mono ?_
        rintro e w5 ⟨v5, rfl, ho5, hb5⟩
        obtain ⟨ao5, c5, rfl, he5, -⟩ := own_sl ho5
        have he45 := he4.below hb5 (Nat.le_refl _)
        have hB4 := Nat.le_trans hBr hb4.size
        have hbw5 : Below B w w5 := (HWE.out.trans (hb4.mono hBr)).trans (hb5.mono hB4)
        have hB5 := Nat.le_trans hB4 hb5.size
        have hFL := HFL.out
        clear ho4 ho5 he4 hb4 hb5 HAL HRX HWE
        go_wp2_with fail
        refine (same_any ao4 F.length c4 F ao5 F.length c5 F w5 he45 he5 (by omega) (by omega)).mono ?_
        rintro e w6 ⟨rfl, hb6⟩
        rw [decide_eq_true rfl]
        clear he45 he5
        go_wp2
        go_ret
        exact ⟨rfl, hbw5.trans (hb6.mono hB5)⟩
end Go.Proofs.YtaamekkbgaeafaaDoor
