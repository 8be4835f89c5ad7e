/-
  The law's small: a contract over this translation.
-/
import Derived.Test.YteggjenncmjfmaaMgN
import Derived.Test.YteggjenncmjfmaaRefFo
namespace Go.Proofs.Yteggjenncmjfmaa
open Go.RowKit
set_option linter.unusedSectionVars false
variable [Inhabited E] [DecidableEq E] [Inhabited RV]
def smallL (ls : List (List E)) : List (List E) := (ls.take 12).map (List.take 60)
theorem smallL_at (ls : List (List E)) (i : Nat) (hi : i < ls.length) (h12 : i < 12) : smallL (ls.take (i + 1)) = smallL (ls.take i) ++ [(ls[i]!).take 60] := by
  unfold smallL
  rw [List.take_take, List.take_take, Nat.min_eq_right (by omega), Nat.min_eq_right (by omega), List.take_succ_eq_append_getElem hi, List.map_append, getElem!_pos ls i hi]
  rfl
theorem ownP_empty (w : World) : OwnP (w.alloc (.cells #[] 25)) w.heap.size (.slice (some ⟨w.heap.size, 0, none⟩) 0 0) [] :=
  ⟨World.ownsRow_made w #[] 0 (Nat.le_refl _) (by unfold maxLen; omega) rfl, fun _ h => (by cases h), List.Pairwise.nil⟩
set_option maxRecDepth 100000 in
set_option maxHeartbeats 1000000 in
theorem small_any (ao : Option Addr) (n c : Nat) (R : List RV) (w : World) (h : ListsV w ao n R) (hn : n ≤ 9223372036854775807) (h0 : ∀ r ∈ R, r.ao = none → r.c = 0) :
    Calls Try.prog 10 #[.slice ao n c] w fun e w' => ∃ v Ps, e = .returned v ∧ Ps.map PV.l = smallL (R.map RV.l) ∧ OwnP w' w.heap.size v Ps ∧ Below w.heap.size w w' := by
  have HL : Hid (ListsV w ao n R) := h
  have HN : Hid (n ≤ 9223372036854775807) := hn
  have H0 : Hid (∀ r ∈ R, r.ao = none → r.c = 0) := h0
  have HP0 : Hid (OwnP (w.alloc (.cells #[] 25)) w.heap.size (.slice (some ⟨w.heap.size, 0, none⟩) 0 0) []) := ownP_empty w
  clear h hn h0
  go_enter Try.func10, Try.ntmps10
  go_wp2_with fail
  go_loopw [3, 4] (fun s3 s4 wr => ∃ (i : Nat) (Ps : List PV), s4 = .int .i64 i ∧ i ≤ n ∧ i ≤ 12 ∧ Hid (Ps.map PV.l = smallL ((R.map RV.l).take i) ∧ OwnP wr w.heap.size s3 Ps ∧ Below w.heap.size w wr)) (fun _ s4 _ => 12 - (intOf s4).toNat)
  case atStart => exact ⟨0, [], rfl, Nat.zero_le _, Nat.zero_le _, by simp [smallL], HP0.out, bel_alloc _ _⟩
  case round =>
    obtain ⟨i, Ps, rfl, hin, hi12, HP⟩ := hrel
    have HFIN : Hid (¬ (i < n ∧ i < 12) → smallL ((R.map RV.l).take i) = smallL (R.map RV.l)) := fun hx => by
      have hRl : (R.map RV.l).length = n := by rw [List.length_map, HL.out.1]
      unfold smallL
      rw [List.take_take]
      by_cases h1 : i < n
      · rw [show min 12 i = 12 by omega]
      · rw [List.take_of_length_le (by omega), List.take_of_length_le (l := R.map RV.l) (by omega)]
    by_cases hlt : i < n
    · by_cases h12 : i < 12
      · have hltz : (i : Int) < (n : Int) := by omega
        have h12z : (i : Int) < 12 := by omega
        obtain ⟨b, off, rfl, hcell⟩ := HL.out.2.2.2 (by omega)
        have cw := hcell i hlt
        have c0 := bel_cell HP.out.2.2 (Nat.le_refl _) cw
        obtain ⟨r, HRI⟩ : ∃ r, Hid (R[i]! = r) := ⟨_, rfl⟩
        rw [HRI.out] at c0 cw
        have hmem : r ∈ R := by rw [← HRI.out, getElem!_pos R i (by rw [HL.out.1]; exact hlt)]; exact List.getElem_mem _
        have HRR : Hid (RIn w r ∧ (r.ao = none → r.c = 0)) := ⟨HL.out.2.1 r hmem, H0.out r hmem⟩
        have HSN : Hid (smallL ((R.map RV.l).take (i + 1)) = smallL ((R.map RV.l).take i) ++ [r.l.take 60]) := by
          show _ = _
          have hl : i < (R.map RV.l).length := by rw [List.length_map, HL.out.1]; exact hlt
          rw [smallL_at _ i hl h12, getElem!_pos (R.map RV.l) i hl, List.getElem_map, ← getElem!_pos R i (by rw [HL.out.1]; exact hlt), HRI.out]
        obtain ⟨ra, ro, rn, rc, rl⟩ := r
        simp only at c0 cw
        have HE : Hid (EntsV w ro (min rn 60) (rl.take (min rn 60)) ∧ min rn 60 ≤ rc ∧ rl.take 60 = rl.take (min rn 60) ∧ (rl.take (min rn 60)).length = min rn 60) := by
          have e1 := HRR.out.1.1.take (min rn 60) (Nat.min_le_left _ _)
          have e2 : rl.length = rn := HRR.out.1.1.1
          have e3 : rn ≤ rc := HRR.out.1.2.1
          refine ⟨e1, by omega, ?_, e1.1⟩
          by_cases h : rn ≤ 60
          · rw [Nat.min_eq_left h, List.take_of_length_le (by omega), List.take_of_length_le (by omega)]
          · rw [Nat.min_eq_right (by omega)]
        obtain ⟨m, HM⟩ : ∃ m, Hid (min rn 60 = m) := ⟨_, rfl⟩
        rw [HM.out] at HE
        have hmz : min (rn : Int) 60 = (m : Int) := by have := HM.out; omega
        have hmc : (m : Int) ≤ (rc : Int) := by have := HE.out.2.1; omega
        have hrc : (rn : Int) ≤ 9223372036854775807 := by have q1 : rn ≤ rc := HRR.out.1.2.1; have q2 : rc ≤ 9223372036854775807 := HRR.out.1.2.2.1; omega
        have HEW : Hid (∀ W, Below w.heap.size w W → EntsV W ro m (rl.take m)) := fun W hW => HE.out.1.below hW (Nat.le_refl _)
        have HCW : Hid (∀ W, Below w.heap.size w W → W.cell? ⟨b, off + i, none⟩ = some (.slice ro rn rc)) := fun W hW => bel_cell hW (Nat.le_refl _) cw
        have HBW : Hid (Below w.heap.size w wr) := HP.out.2.2
        have HMB : Hid (0 + m ≤ 1000000000000 ∧ m ≤ 60) := by have := HM.out; exact ⟨by omega, by omega⟩
        have HZ : Hid (ro = none → rc = 0) := HRR.out.2
        have HRW : Hid (∀ W, Below wr.heap.size wr W → W.ownsRow w.heap.size 25 1 u3 Ps.length (Ps.map PV.v)) := fun W hW => own_below HP.out.2.1.row hW (Nat.le_refl _)
        have HPL : Hid (Ps.length < 1000000) := by
          have h1 := congrArg List.length HP.out.1
          unfold smallL at h1
          rw [List.length_map, List.length_map, List.length_take] at h1
          show _ < _; omega
        obtain ⟨i0, hi, hz0, hz1, hz2⟩ := info_parts info25
        clear hcell hmem hlt h12
        go_wp2_with fail
        have HML : Hid ((rl.take m).length = m) := HE.out.2.2.2
        have HX1 : Hid (∀ W, W = wr.drew.alloc (.cells #[] 29) ∨ W = (wr.alloc (.cells #[] 29)).drew → Below wr.heap.size wr W ∧ Below w.heap.size w W) := fun W hW => by
          have h1 : Below wr.heap.size wr W := by
            rcases hW with rfl | rfl
            · exact (Below.drew (Below.refl wr.heap.size wr)).alloc (Below.drew (Below.refl wr.heap.size wr)).size _
            · exact (bel_alloc wr _).drew
          exact ⟨h1, HBW.out.trans (h1.mono HBW.out.size)⟩
        clear cw
        go_region_held3 (fun W => W.cell? ⟨b, off + i, none⟩ = some (.slice ro rn rc)) (first | assumption | go_keep) (first | (refine step_append_ents _ rfl (.tmp 17) (.tmp 28) rfl wr.heap.size (.slice (some ⟨wr.heap.size, 0, none⟩) 0 0) 0 [] rfl (by first | exact own_emptyE wr.drew | exact World.ownsRow.drew (own_emptyE wr)) (by simp) ro m rc (rl.take m) rfl (HEW.out _ (HX1.out _ (by first | exact .inl rfl | exact .inr rfl)).2) HZ.out HMB.out.1 ?_; intro v5 w5 ho5 hb5; simp only [List.nil_append] at ho5; rw [HML.out] at ho5; obtain ⟨o5, c5, hv5, -⟩ := ent_slice ho5 HML.out; subst hv5; have hb6 := (HX1.out _ (by first | exact .inl rfl | exact .inr rfl)).1.trans hb5; have hB6 := HBW.out.trans (hb6.mono HBW.out.size); have hS5 := HCW.out w5 hB6) | (refine step_append_lies _ rfl (.tmp 16) (.tmp 30) 22 rfl w.heap.size 25 i0 _ 1 24 Try.underlying22 hi hz0 hz1 hz2 rfl (by decide) u3 Ps.length (Ps.map PV.v) rfl (HRW.out _ (hb6.alloc hb6.size _)) ⟨w5.heap.size, 0, none⟩ 1 1 [.slice o5 m c5] rfl rfl (World.news_of_block (cs := #[.slice o5 m c5]) (t := 25) (fr := (0, 0)) (by rw [heap_alloc_get, if_pos rfl])) (fun x hx => by rw [List.mem_singleton.1 hx]; rfl) (by decide) (by have := HPL.out; unfold maxLen; omega) (by have := HPL.out; omega) (Nat.le_trans hB6.size (Nat.le_of_lt (by simp))) _ rfl ?_; intro g7 cap7 w7 hr7 hg7 hl7 hlt7; have hB7 := (hB6.alloc hB6.size (.cells #[.slice o5 m c5] 25)).trans ((Below.refl _ _).grown hg7 (Nat.le_trans hB6.size (Nat.le_of_lt (by simp))) (fun k hk => (HP.out.2.1.row.lt k hk).1)); have hS7 := HCW.out w7 hB7))
        all_goals
          have HF : Hid ((Ps ++ [(⟨.slice o5 m c5, rl.take m⟩ : PV)]).map PV.l = smallL ((R.map RV.l).take (i + 1)) ∧ OwnP w7 w.heap.size (.slice (some ⟨g7, 0, none⟩) (Ps.length + 1) cap7) (Ps ++ [⟨.slice o5 m c5, rl.take m⟩]) ∧ Below w.heap.size w w7) := ⟨by rw [List.map_append, HSN.out, HP.out.1, HE.out.2.2.1]; rfl, HP.out.2.1.snoc (hb6.alloc hb6.size _) (by rw [HML.out]; exact own_below ho5 (bel_alloc _ _) (Nat.le_refl _)) HBW.out.size hr7 hg7, hB7⟩
          clear hr7 hg7 hl7 hlt7 hB7 hS7 hS5 hB6 hb6 ho5 hb5
          go_wp2_with fail
          go_roundw
          case rel => exact ⟨i + 1, _, by go_num, by omega, by omega, HF.out⟩
          case measure => simp [intOf]; omega
      · have h12z : ¬ (i : Int) < 12 := by omega
        have hltz : (i : Int) < (n : Int) := by omega
        have hd : decide ((i : Int) < 12) = false := decide_eq_false h12z
        have HF : Hid (Ps.map PV.l = smallL (R.map RV.l)) := by show _ = _; rw [HP.out.1]; exact HFIN.out (fun h => h12 h.2)
        clear hlt h12
        go_wp2_with fail
        go_ret
        first | exact ⟨_, Ps, rfl, HF.out, HP.out.2⟩ | exact ⟨_, rfl, Ps, HF.out, HP.out.2⟩
    · have hltz : ¬ (i : Int) < (n : Int) := by omega
      have HF : Hid (Ps.map PV.l = smallL (R.map RV.l)) := by show _ = _; rw [HP.out.1]; exact HFIN.out (fun h => hlt h.1)
      clear hlt
      go_wp2_with fail
      go_ret
      first | exact ⟨_, Ps, rfl, HF.out, HP.out.2⟩ | exact ⟨_, rfl, Ps, HF.out, HP.out.2⟩
end Go.Proofs.Yteggjenncmjfmaa
