/-
  What shown answers: a contract over this translation.
-/
import Derived.Test.YtiimmknnlciljaaDoorSuPm
namespace Go.Proofs.YtiimmknnlciljaaDoor
open Go.RowKit Go.Sort Go.Shelf
set_option linter.unusedSectionVars false
variable [Inhabited E] [DecidableEq E]
theorem right_nil : rightTB [] = true := rightTB_iff.2 ⟨by simp, fun i hi => absurd hi (by simp)⟩
theorem right_nil' : rightT [] := rightTB_iff.1 right_nil
theorem sumB_nil : sumB [] = [0] := by decide +kernel
set_option maxRecDepth 100000 in
theorem kept_all : Sm.keptZ 256 [3, 0] = Sm.shaB [3, 0] := by kernel_rfl
theorem parse_zero : parseOk [0] = true ∧ (rdL [0] false).1 = [] := by
  have := parse_yes right_nil'
  rwa [sumB_nil] at this
theorem parse_none : parseOk [] = false := by
  have : rdL [] false = ([], [], true) := rfl
  unfold parseOk; rw [this]; rfl
/-- A digest stored into a block of its own. -/
theorem wpList_store_dig {ops : Array Oper} {rest : List Oper} {o : Oper} {a : Act} {Q : Exit → Act → World → Prop} (w : World)
    (hg : o.guard = none) (p v : Operand) (ho : o.op = .store 32 p v) (g : Nat) (hp : a.eval p = .pointer (some ⟨g, 0, none⟩)) (d : List UInt8) (hd : d.length = 32) (hv : a.eval v = .agg (cellsOf d).toArray)
    (old : Array Value) (hold : w.heap[g]? = some (.cells old 32 (0, 0))) (hs : old.size = 32)
    (hK : ∀ w1, w1.heap[g]? = some (.cells (cellsOf d).toArray 32 (0, 0)) → Sm.Chg g w w1 → wpList Tryd.prog ops Q rest (a.put o.dst undef) w1) : wpList Tryd.prog ops Q (o :: rest) a w :=
  wpList_store_row hg 32 p v ho g (cellsOf d).toArray hp hv 32 old hold (dig_szA hd) (by show old.size = (cellsOf d).toArray.size; rw [hs, List.size_toArray, cellsOf_length, hd]) (dig_all d) (hK _ (setRow_heap w g _ _ 32 _ hold) ((Sm.Chg.refl g w).row _))
theorem dig_range {w : World} {g : Nat} {d : List UInt8} (h : w.heap[g]? = some (.cells (cellsOf d).toArray 32 (0, 0))) : w.rangeAt g 0 (cellsOf d) := fun j v hv => by
  rw [Nat.zero_add, cell_of_row _ _ _ _ _ _ h]; simpa using hv
theorem smallT_nil : SmallT [] := fun x hx => by cases hx
set_option maxRecDepth 100000 in
set_option maxHeartbeats 8000000 in
theorem shown_any (w : World) (hK : Sm.WW w 0 Sm.ks) (hz0 : 0 < w.heap.size) :
    Calls Tryd.prog 11 #[] w fun e w' => e = .returned (.bool true) ∧ Below w.heap.size w w' := by
  have HK : Hid (∀ W, Below w.heap.size w W → Sm.WW W 0 Sm.ks ∧ 0 < W.heap.size) := fun W hW => ⟨hK.below hW hz0, by have := hW.size; omega⟩
  have C1 : Hid _ := bytes14_any none 0 0 [] w (tabsV_nil w none) smallT_nil (by omega)
  rw [right_nil, if_pos rfl, sumB_nil] at C1
  obtain ⟨D, HD⟩ : ∃ D, Hid (Sm.shaB [3, 0] = D) := ⟨_, rfl⟩
  have HDL : Hid (D.length = 32) := by show _ = _; rw [← HD.out]; exact Sm.shaB_length _
  have HDG : Hid (digB 256 [] = D) := by show _ = _; rw [← HD.out]; unfold digB; rw [right_nil, if_pos rfl, sumB_nil]; exact kept_all
  have C2 : Hid (∀ W, Below w.heap.size w W → Calls Tryd.prog 15 #[.int .i64 256, .slice none 0 0] W fun e w' => e = .returned (.tuple #[.agg (cellsOf D).toArray, .int .i64 0]) ∧ Below W.heap.size W w') := fun W hW => by
    have := digest14_any 256 none 0 0 [] W (tabsV_nil W none) smallT_nil (by omega) (HK.out W hW).1 (HK.out W hW).2 ⟨by omega, by omega⟩
    rw [right_nil, if_pos rfl, HDG.out] at this; exact this
  have C3 : Hid (∀ W g, Bytes W (some ⟨g, 0, none⟩) 1 [0] → Calls Tryd.prog 20 #[.slice (some ⟨g, 0, none⟩) 1 1] W fun e w' => ∃ a c, e = .returned (.tuple #[.slice a 0 c, .int .i64 0]) ∧ Below W.heap.size W w') := fun W g hb => by
    refine (parse_any _ 1 1 [0] W hb (fun h => by cases h) (by omega) (by omega)).mono ?_
    rintro e w' ⟨v, rfl, hpv, hb⟩
    rw [parse_zero.1, if_pos rfl]
    have hown := hpv.1 parse_zero.1
    rw [parse_zero.2] at hown
    obtain ⟨a, c, rfl, -⟩ := own_tabsV hown
    exact ⟨a, c, rfl, hb⟩
  have C4 : Hid (∀ W, Calls Tryd.prog 20 #[.slice none 0 0] W fun e w' => e = .returned (.tuple #[.slice none 0 0, .int .i64 2]) ∧ Below W.heap.size W w') := fun W => by
    refine (parse_any none 0 0 [] W (bytes_nil W) (fun _ => rfl) (by omega) (by omega)).mono ?_
    rintro e w' ⟨v, rfl, hpv, hb⟩
    rw [parse_none]
    obtain rfl := hpv.2 parse_none
    exact ⟨rfl, hb⟩
  clear hK hz0
  go_enter Tryd.func11, Tryd.ntmps11
  go_wp2_with fail
  refine Calls.mono C1.out ?_
  rintro e w1 ⟨v1, rfl, hyb, hb1⟩
  have hown := hyb.1 rfl
  obtain ⟨g1, c1, rfl, hg1, hg2, hnc1, hc1⟩ := own_shape hown (by simp)
  have HY1 : Hid (Bytes w1 (some ⟨g1, 0, none⟩) 1 [0]) := own_row_bytes hown
  have HB1 : Hid (Below w.heap.size w w1) := hb1
  have HC1 : Hid (1 ≤ c1 ∧ c1 ≤ 9223372036854775807) := ⟨hnc1, hc1⟩
  clear hown hyb hb1 C1 hg1 hg2 hnc1 hc1
  go_wp2_with fail
  refine (C2.out w1 HB1.out).mono ?_
  rintro e w2 ⟨rfl, hb2⟩
  have HB2 : Hid (Below w.heap.size w w2 ∧ Below w1.heap.size w1 w2) := ⟨HB1.out.trans (hb2.mono HB1.out.size), hb2⟩
  clear hb2 C2
  go_wp2_with (refine wpList_store_dig _ rfl (.tmp 3) (.tmp 15) rfl w2.heap.size rfl D HDL.out rfl _ (heap_alloc_new w2 _) rfl ?_)
  intro w3 hd3 hc3
  have HB3 : Hid (Below w.heap.size w w3 ∧ Below w1.heap.size w1 w3) := by
    have h1 := HB2.out.1.size; have h2 := HB2.out.2.size
    have h3 : Below w2.heap.size w2 w3 := (bel_alloc w2 _).trans (hc3.below (Nat.le_refl _) (by simp))
    exact ⟨HB2.out.1.trans (h3.mono h1), HB2.out.2.trans (h3.mono h2)⟩
  have HD3 : Hid (w3.heap[w2.heap.size]? = some (.cells (cellsOf D).toArray 32 (0, 0))) := hd3
  have HLT : Hid (w2.heap.size < w3.heap.size) := (Array.getElem?_eq_some_iff.1 hd3).1
  clear hd3 hc3
  go_wp2_with fail
  refine (C3.out _ _ ⟨rfl, fun i c hi => ⟨_, rfl, by
    have hl := (List.getElem?_eq_some_iff.1 hi).1
    match i, hi with
    | 0, hi => simp at hi; subst hi; simp [Addr.add]
    | n + 1, hi => simp at hi⟩⟩).mono ?_
  rintro e w4 ⟨a4, c4, rfl, hb4⟩
  have HB4 : Hid (Below w3.heap.size w3 w4) := (bel_alloc w3 _).trans (hb4.mono (by simp))
  clear hb4 C3
  go_wp2_with fail
  refine (C4.out w4).mono ?_
  rintro e w5 ⟨rfl, hb5⟩
  have HB5 : Hid (Below w3.heap.size w3 w5) := HB4.out.trans (hb5.mono HB4.out.size)
  have HBW : Hid (Below w.heap.size w w5 ∧ Below w1.heap.size w1 w5) := ⟨HB3.out.1.trans (HB5.out.mono HB3.out.1.size), HB3.out.2.trans (HB5.out.mono HB3.out.2.size)⟩
  clear hb5 C4
  have HS : Hid (∀ W, Below w5.heap.size w5 W → Bytes W (some ⟨g1, 0, none⟩) 1 [0] ∧ W.rangeAt w2.heap.size 0 (cellsOf D)) := fun W hW =>
    ⟨bytes_kept (bytes_kept HY1.out HBW.out.2 (Nat.le_refl _)) hW (Nat.le_refl _), dig_range ((hW.block _ (by have := HB5.out.size; have := HLT.out; omega)).trans ((HB5.out.block _ HLT.out).trans HD3.out))⟩
  have HIN : Hid ((Tryd.prog.info? 32).map (·.size) = some (cellsOf D).length) := by show _ = _; rw [Sm.size24, cellsOf_length, HDL.out]
  have heq : ∀ w, (binOp .eql 32 (.agg (cellsOf D).toArray) (.agg (cellsOf D).toArray)).run Tryd.prog w = .ok (.bool true) w := fun w => by
    have := Sm.run_eq_dig D D HDL.out HDL.out w
    rw [beq_self_eq_true] at this; exact this
  have hcv : ∀ w, Bytes w (some ⟨g1, 0, none⟩) 1 [0] ∧ w.rangeAt w2.heap.size 0 (cellsOf D) → (convert 25 9 (.slice (some ⟨g1, 0, none⟩) 1 c1)).run Tryd.prog w = .ok (.string ⟨#[0]⟩) w := fun w h => str_bytes c1 h.1
  have HOF : Hid (∀ W g, Below w.heap.size w W → Bytes W (some ⟨g, 0, none⟩) 2 [3, 0] → Calls Tryd.prog 30 #[.slice (some ⟨g, 0, none⟩) 2 2] W fun e w' => e = .returned (.agg (cellsOf D).toArray) ∧ Below W.heap.size W w') := fun W g hW hb => by
    have := Sm.of_any (some ⟨g, 0, none⟩) 2 2 [3, 0] W hb (by omega) (by omega) (HK.out W hW).1 (HK.out W hW).2
    rw [HD.out] at this; exact this
  have HTX : Hid (∀ W, Bytes W (some ⟨g1, 0, none⟩) 1 [0] → Calls Tryd.prog 28 #[.slice (some ⟨g1, 0, none⟩) 1 c1] W fun e w' => ∃ v, e = .returned v ∧ w'.ownsRow W.heap.size 5 1 v 2 (cellsOf [3, 0]) ∧ Below W.heap.size W w') := fun W hb => textS_any _ 1 c1 [0] W hb (fun h => by cases h) (by omega)
  clear HB1 HB2 HB3 HB4 HD3 HY1
  go_upto_region 5 with fail
  refine wp_region_held_drew (S := fun W => Bytes W (some ⟨g1, 0, none⟩) 1 [0] ∧ W.rangeAt w2.heap.size 0 (cellsOf D)) (by kernel_rfl) (HS.out _ (Below.drew (Below.refl _ _))) (fun hS => ?_)
  refine wpAnyH_take (i := 0) (v := ?_) rfl (by kernel_rfl) (by kernel_rfl) (by kernel_rfl) (fun _ _ _ h => h) (Or.inl ⟨by rfl, ?_⟩) (by assumption) ?_
  rotate_left
  · (intro w hSw; (try dsimp only at hSw); go_simp; try with_reducible rfl)
  simp only [Act.put, List.getElem_toArray, List.getElem_cons_zero, List.setIfInBounds_toArray, List.set_cons_zero, List.set_cons_succ]
  refine wpAnyH_take (i := 1) (v := ?_) rfl (by kernel_rfl) (by kernel_rfl) (by kernel_rfl) (fun _ _ _ h => h) (Or.inl ⟨by rfl, ?_⟩) (by assumption) ?_
  rotate_left
  · (intro w hSw; have hc := hcv w hSw; (try dsimp only at hSw); go_simp; try with_reducible rfl)
  simp only [Act.put, List.getElem_toArray, List.getElem_cons_zero, List.getElem_cons_succ, List.setIfInBounds_toArray, List.set_cons_zero, List.set_cons_succ]
  refine wpAnyH_take (i := 2) (v := ?_) rfl (by kernel_rfl) (by kernel_rfl) (by kernel_rfl) (fun _ _ _ h => h) (Or.inl ⟨by rfl, ?_⟩) (by assumption) ?_
  rotate_left
  · (intro w hSw; (try dsimp only at hSw); go_simp; try with_reducible rfl)
  simp only [Act.put, List.getElem_toArray, List.getElem_cons_zero, List.getElem_cons_succ, List.setIfInBounds_toArray, List.set_cons_zero, List.set_cons_succ]
  refine wpAnyH_take (i := 3) (v := ?_) rfl (by kernel_rfl) (by kernel_rfl) (by kernel_rfl) (fun _ _ _ h => h) (Or.inl ⟨by rfl, ?_⟩) (by assumption) ?_
  rotate_left
  · (intro w hSw; (try dsimp only at hSw); go_simp; try with_reducible rfl)
  simp only [Act.put, List.getElem_toArray, List.getElem_cons_zero, List.getElem_cons_succ, List.setIfInBounds_toArray, List.set_cons_zero, List.set_cons_succ]
  refine wpAnyH_take (i := 4) (v := ?_) rfl (by kernel_rfl) (by kernel_rfl) (by kernel_rfl) (fun _ _ _ h => h) (Or.inl ⟨by rfl, ?_⟩) (by assumption) ?_
  rotate_left
  · (intro w hSw; (try dsimp only at hSw); go_simp; try with_reducible rfl)
  simp only [Act.put, List.getElem_toArray, List.getElem_cons_zero, List.getElem_cons_succ, List.setIfInBounds_toArray, List.set_cons_zero, List.set_cons_succ]
  refine wpAnyH_take (i := 5) (v := ?_) rfl (by kernel_rfl) (by kernel_rfl) (by kernel_rfl) (fun _ _ _ h => h) (Or.inl ⟨by rfl, ?_⟩) (by assumption) ?_
  rotate_left
  · (intro w hSw; (try dsimp only at hSw); go_simp; try with_reducible rfl)
  simp only [Act.put, List.getElem_toArray, List.getElem_cons_zero, List.getElem_cons_succ, List.setIfInBounds_toArray, List.set_cons_zero, List.set_cons_succ]
  refine wpAnyH_take (i := 6) (v := ?_) rfl (by kernel_rfl) (by kernel_rfl) (by kernel_rfl) (fun _ _ _ h => h) (Or.inl ⟨by rfl, ?_⟩) (by assumption) ?_
  rotate_left
  · (intro w hSw; (try dsimp only at hSw); go_simp; try with_reducible rfl)
  simp only [Act.put, List.getElem_toArray, List.getElem_cons_zero, List.getElem_cons_succ, List.setIfInBounds_toArray, List.set_cons_zero, List.set_cons_succ]
  refine wpAnyH_take (i := 7) (v := ?_) rfl (by kernel_rfl) (by kernel_rfl) (by kernel_rfl) (fun _ _ _ h => h) (Or.inl ⟨by rfl, ?_⟩) (by assumption) ?_
  rotate_left
  · (intro w hSw; (try dsimp only at hSw); go_simp; try with_reducible rfl)
  simp only [Act.put, List.getElem_toArray, List.getElem_cons_zero, List.getElem_cons_succ, List.setIfInBounds_toArray, List.set_cons_zero, List.set_cons_succ]
  refine wpAnyH_take (i := 8) (v := .agg (cellsOf D).toArray) rfl (by kernel_rfl) (by kernel_rfl) (by kernel_rfl) (fun _ _ _ h => h) (yieldsIf_load_mid (by rfl) 32 (.tmp 3) rfl w2.heap.size 0 rfl (cellsOf D) _ (fun W h => h.2) Tryd.underlying32 rfl HIN.out) (by assumption) ?_
  simp only [Act.put, List.getElem_toArray, List.getElem_cons_zero, List.getElem_cons_succ, List.setIfInBounds_toArray, List.set_cons_zero, List.set_cons_succ]
  have HC6 : Hid (Below w5.heap.size w5 (w5.drew.alloc (.cells #[.int .u8 3, .int .u8 0] 5))) := (Below.drew (Below.refl _ _)).trans ((bel_alloc w5.drew _).mono (Nat.le_refl _))
  refine wpAnyH_ready (rs := [9]) (by kernel_rfl) (by simp) ?_
  refine AllReadyH.cons rfl (fun K hK => ?_) AllReadyH.nil
  go_simp
  refine hK.out _ _ (HS.out _ HC6.out) (fun hHeld2 => ?_)
  clear hK K
  refine wpAnyH_ready (rs := [10]) (by kernel_rfl) (by simp) ?_
  refine AllReadyH.cons rfl (fun K hK => ?_) AllReadyH.nil
  go_simp
  refine (HOF.out _ _ (HBW.out.1.trans (HC6.out.mono HBW.out.1.size)) (bytes_two w5.drew 3 0)).mono ?_
  rintro e w7 ⟨rfl, hb7⟩
  have HC7 : Hid (Below w5.heap.size w5 w7) := HC6.out.trans (hb7.mono HC6.out.size)
  clear hb7
  go_wp2_with fail
  refine hK.out _ _ (HS.out _ HC7.out) (fun hHeld3 => ?_)
  clear hK K
  refine wpAnyH_take (i := 11) (v := ?_) rfl (by kernel_rfl) (by kernel_rfl) (by kernel_rfl) (fun _ _ _ h => h) (Or.inl ⟨by rfl, ?_⟩) (by assumption) ?_
  rotate_left
  · (intro w hSw; (try dsimp only at hSw); go_simp; try with_reducible rfl)
  simp only [Act.put, List.getElem_toArray, List.getElem_cons_zero, List.getElem_cons_succ, List.setIfInBounds_toArray, List.set_cons_zero, List.set_cons_succ]
  refine wpAnyH_take (i := 12) (v := ?_) rfl (by kernel_rfl) (by kernel_rfl) (by kernel_rfl) (fun _ _ _ h => h) (Or.inl ⟨by rfl, ?_⟩) (by assumption) ?_
  rotate_left
  · (intro w hSw; (try dsimp only at hSw); go_simp; try with_reducible rfl)
  simp only [Act.put, List.getElem_toArray, List.getElem_cons_zero, List.getElem_cons_succ, List.setIfInBounds_toArray, List.set_cons_zero, List.set_cons_succ]
  refine wpAnyH_take (i := 13) (v := ?_) rfl (by kernel_rfl) (by kernel_rfl) (by kernel_rfl) (fun _ _ _ h => h) (Or.inl ⟨by rfl, ?_⟩) (by assumption) ?_
  rotate_left
  · (intro w hSw; (try dsimp only at hSw); go_simp; try with_reducible rfl)
  simp only [Act.put, List.getElem_toArray, List.getElem_cons_zero, List.getElem_cons_succ, List.setIfInBounds_toArray, List.set_cons_zero, List.set_cons_succ]
  refine wpAnyH_take (i := 14) (v := ?_) rfl (by kernel_rfl) (by kernel_rfl) (by kernel_rfl) (fun _ _ _ h => h) (Or.inl ⟨by rfl, ?_⟩) (by assumption) ?_
  rotate_left
  · (intro w hSw; (try dsimp only at hSw); go_simp; try with_reducible rfl)
  simp only [Act.put, List.getElem_toArray, List.getElem_cons_zero, List.getElem_cons_succ, List.setIfInBounds_toArray, List.set_cons_zero, List.set_cons_succ]
  refine wpAnyH_take (i := 15) (v := ?_) rfl (by kernel_rfl) (by kernel_rfl) (by kernel_rfl) (fun _ _ _ h => h) (Or.inl ⟨by rfl, ?_⟩) (by assumption) ?_
  rotate_left
  · (intro w hSw; (try dsimp only at hSw); go_simp; try with_reducible rfl)
  simp only [Act.put, List.getElem_toArray, List.getElem_cons_zero, List.getElem_cons_succ, List.setIfInBounds_toArray, List.set_cons_zero, List.set_cons_succ]
  refine wpAnyH_take (i := 16) (v := ?_) rfl (by kernel_rfl) (by kernel_rfl) (by kernel_rfl) (fun _ _ _ h => h) (Or.inl ⟨by rfl, ?_⟩) (by assumption) ?_
  rotate_left
  · (intro w hSw; (try dsimp only at hSw); go_simp; try with_reducible rfl)
  simp only [Act.put, List.getElem_toArray, List.getElem_cons_zero, List.getElem_cons_succ, List.setIfInBounds_toArray, List.set_cons_zero, List.set_cons_succ]
  refine wpAnyH_take (i := 17) (v := ?_) rfl (by kernel_rfl) (by kernel_rfl) (by kernel_rfl) (fun _ _ _ h => h) (Or.inl ⟨by rfl, ?_⟩) (by assumption) ?_
  rotate_left
  · (intro w hSw; (try dsimp only at hSw); go_simp; try with_reducible rfl)
  simp only [Act.put, List.getElem_toArray, List.getElem_cons_zero, List.getElem_cons_succ, List.setIfInBounds_toArray, List.set_cons_zero, List.set_cons_succ]
  refine wpAnyH_take (i := 18) (v := ?_) rfl (by kernel_rfl) (by kernel_rfl) (by kernel_rfl) (fun _ _ _ h => h) (Or.inl ⟨by rfl, ?_⟩) (by assumption) ?_
  rotate_left
  · (intro w hSw; (try dsimp only at hSw); go_simp; try with_reducible rfl)
  simp only [Act.put, List.getElem_toArray, List.getElem_cons_zero, List.getElem_cons_succ, List.setIfInBounds_toArray, List.set_cons_zero, List.set_cons_succ]
  refine wpAnyH_take (i := 19) (v := ?_) rfl (by kernel_rfl) (by kernel_rfl) (by kernel_rfl) (fun _ _ _ h => h) (Or.inl ⟨by rfl, ?_⟩) (by assumption) ?_
  rotate_left
  · (intro w hSw; (try dsimp only at hSw); go_simp; try with_reducible rfl)
  simp only [Act.put, List.getElem_toArray, List.getElem_cons_zero, List.getElem_cons_succ, List.setIfInBounds_toArray, List.set_cons_zero, List.set_cons_succ]
  refine wpAnyH_take (i := 20) (v := ?_) rfl (by kernel_rfl) (by kernel_rfl) (by kernel_rfl) (fun _ _ _ h => h) (Or.inl ⟨by rfl, ?_⟩) (by assumption) ?_
  rotate_left
  · (intro w hSw; (try dsimp only at hSw); go_simp; try with_reducible rfl)
  simp only [Act.put, List.getElem_toArray, List.getElem_cons_zero, List.getElem_cons_succ, List.setIfInBounds_toArray, List.set_cons_zero, List.set_cons_succ]
  refine wpAnyH_take (i := 21) (v := ?_) rfl (by kernel_rfl) (by kernel_rfl) (by kernel_rfl) (fun _ _ _ h => h) (Or.inl ⟨by rfl, ?_⟩) (by assumption) ?_
  rotate_left
  · (intro w hSw; (try dsimp only at hSw); go_simp; try with_reducible rfl)
  simp only [Act.put, List.getElem_toArray, List.getElem_cons_zero, List.getElem_cons_succ, List.setIfInBounds_toArray, List.set_cons_zero, List.set_cons_succ]
  refine wpAnyH_take (i := 22) (v := ?_) rfl (by kernel_rfl) (by kernel_rfl) (by kernel_rfl) (fun _ _ _ h => h) (Or.inl ⟨by rfl, ?_⟩) (by assumption) ?_
  rotate_left
  · (intro w hSw; (try dsimp only at hSw); go_simp; try with_reducible rfl)
  simp only [Act.put, List.getElem_toArray, List.getElem_cons_zero, List.getElem_cons_succ, List.setIfInBounds_toArray, List.set_cons_zero, List.set_cons_succ]
  refine wpAnyH_take (i := 23) (v := ?_) rfl (by kernel_rfl) (by kernel_rfl) (by kernel_rfl) (fun _ _ _ h => h) (Or.inl ⟨by rfl, ?_⟩) (by assumption) ?_
  rotate_left
  · (intro w hSw; (try dsimp only at hSw); go_simp; try with_reducible rfl)
  simp only [Act.put, List.getElem_toArray, List.getElem_cons_zero, List.getElem_cons_succ, List.setIfInBounds_toArray, List.set_cons_zero, List.set_cons_succ]
  refine wpAnyH_take (i := 24) (v := ?_) rfl (by kernel_rfl) (by kernel_rfl) (by kernel_rfl) (fun _ _ _ h => h) (Or.inl ⟨by rfl, ?_⟩) (by assumption) ?_
  rotate_left
  · (intro w hSw; (try dsimp only at hSw); go_simp; try with_reducible rfl)
  simp only [Act.put, List.getElem_toArray, List.getElem_cons_zero, List.getElem_cons_succ, List.setIfInBounds_toArray, List.set_cons_zero, List.set_cons_succ]
  refine wpAnyH_take (i := 25) (v := ?_) rfl (by kernel_rfl) (by kernel_rfl) (by kernel_rfl) (fun _ _ _ h => h) (Or.inl ⟨by rfl, ?_⟩) (by assumption) ?_
  rotate_left
  · (intro w hSw; (try dsimp only at hSw); go_simp; try with_reducible rfl)
  simp only [Act.put, List.getElem_toArray, List.getElem_cons_zero, List.getElem_cons_succ, List.setIfInBounds_toArray, List.set_cons_zero, List.set_cons_succ]
  refine wpAnyH_take (i := 26) (v := ?_) rfl (by kernel_rfl) (by kernel_rfl) (by kernel_rfl) (fun _ _ _ h => h) (Or.inl ⟨by rfl, ?_⟩) (by assumption) ?_
  rotate_left
  · (intro w hSw; (try dsimp only at hSw); go_simp; try with_reducible rfl)
  simp only [Act.put, List.getElem_toArray, List.getElem_cons_zero, List.getElem_cons_succ, List.setIfInBounds_toArray, List.set_cons_zero, List.set_cons_succ]
  refine wpAnyH_take (i := 27) (v := ?_) rfl (by kernel_rfl) (by kernel_rfl) (by kernel_rfl) (fun _ _ _ h => h) (Or.inl ⟨by rfl, ?_⟩) (by assumption) ?_
  rotate_left
  · (intro w hSw; (try dsimp only at hSw); go_simp; try with_reducible rfl)
  simp only [Act.put, List.getElem_toArray, List.getElem_cons_zero, List.getElem_cons_succ, List.setIfInBounds_toArray, List.set_cons_zero, List.set_cons_succ]
  refine wpAnyH_take (i := 28) (v := ?_) rfl (by kernel_rfl) (by kernel_rfl) (by kernel_rfl) (fun _ _ _ h => h) (Or.inl ⟨by rfl, ?_⟩) (by assumption) ?_
  rotate_left
  · (intro w hSw; (try dsimp only at hSw); go_simp; try with_reducible rfl)
  simp only [Act.put, List.getElem_toArray, List.getElem_cons_zero, List.getElem_cons_succ, List.setIfInBounds_toArray, List.set_cons_zero, List.set_cons_succ]
  refine wpAnyH_take (i := 29) (v := ?_) rfl (by kernel_rfl) (by kernel_rfl) (by kernel_rfl) (fun _ _ _ h => h) (Or.inl ⟨by rfl, ?_⟩) (by assumption) ?_
  rotate_left
  · (intro w hSw; (try dsimp only at hSw); go_simp; try with_reducible rfl)
  simp only [Act.put, List.getElem_toArray, List.getElem_cons_zero, List.getElem_cons_succ, List.setIfInBounds_toArray, List.set_cons_zero, List.set_cons_succ]
  refine wpAnyH_take (i := 30) (v := ?_) rfl (by kernel_rfl) (by kernel_rfl) (by kernel_rfl) (fun _ _ _ h => h) (Or.inl ⟨by rfl, ?_⟩) (by assumption) ?_
  rotate_left
  · (intro w hSw; (try dsimp only at hSw); go_simp; try with_reducible rfl)
  simp only [Act.put, List.getElem_toArray, List.getElem_cons_zero, List.getElem_cons_succ, List.setIfInBounds_toArray, List.set_cons_zero, List.set_cons_succ]
  refine wpAnyH_take (i := 31) (v := ?_) rfl (by kernel_rfl) (by kernel_rfl) (by kernel_rfl) (fun _ _ _ h => h) (Or.inl ⟨by rfl, ?_⟩) (by assumption) ?_
  rotate_left
  · (intro w hSw; (try dsimp only at hSw); go_simp; try with_reducible rfl)
  simp only [Act.put, List.getElem_toArray, List.getElem_cons_zero, List.getElem_cons_succ, List.setIfInBounds_toArray, List.set_cons_zero, List.set_cons_succ]
  refine wpAnyH_ready (rs := [32]) (by kernel_rfl) (by simp) ?_
  refine AllReadyH.cons rfl (fun K hK => ?_) AllReadyH.nil
  go_simp
  refine (HTX.out _ (HS.out _ HC7.out).1).mono ?_
  rintro e w8 ⟨v8, rfl, hown8, hb8⟩
  have HC9 : Hid (Below w5.heap.size w5 w8) := HC7.out.trans (hb8.mono HC7.out.size)
  obtain ⟨g8, c8, rfl, hg8, hg82, hn8, hc8⟩ := own_shape hown8 (by omega)
  have HY8 : Hid (Bytes w8 (some ⟨g8, 0, none⟩) 2 [3, 0]) := own_row_bytes hown8
  clear hown8 hb8 hn8 hc8 hg8 hg82
  go_wp2_with fail
  refine hK.out _ _ (HS.out _ HC9.out) (fun hHeld4 => ?_)
  clear hK K
  have hcv8 := str_bytes c8 HY8.out
  refine wpAnyH_ready (rs := [33]) (by kernel_rfl) (by simp) ?_
  refine AllReadyH.cons rfl (fun K hK => ?_) AllReadyH.nil
  go_simp
  refine hK.out _ _ (HS.out _ HC9.out) (fun hHeld5 => ?_)
  clear hK K
  refine wpAnyH_take (i := 34) (v := ?_) rfl (by kernel_rfl) (by kernel_rfl) (by kernel_rfl) (fun _ _ _ h => h) (Or.inl ⟨by rfl, ?_⟩) (by assumption) ?_
  rotate_left
  · (intro w hSw; (try dsimp only at hSw); go_simp; try with_reducible rfl)
  simp only [Act.put, List.getElem_toArray, List.getElem_cons_zero, List.getElem_cons_succ, List.setIfInBounds_toArray, List.set_cons_zero, List.set_cons_succ]
  refine wpAnyH_take (i := 35) (v := ?_) rfl (by kernel_rfl) (by kernel_rfl) (by kernel_rfl) (fun _ _ _ h => h) (Or.inl ⟨by rfl, ?_⟩) (by assumption) ?_
  rotate_left
  · (intro w hSw; (try dsimp only at hSw); go_simp; try with_reducible rfl)
  simp only [Act.put, List.getElem_toArray, List.getElem_cons_zero, List.getElem_cons_succ, List.setIfInBounds_toArray, List.set_cons_zero, List.set_cons_succ]
  refine wpAnyH_take (i := 36) (v := ?_) rfl (by kernel_rfl) (by kernel_rfl) (by kernel_rfl) (fun _ _ _ h => h) (Or.inl ⟨by rfl, ?_⟩) (by assumption) ?_
  rotate_left
  · (intro w hSw; (try dsimp only at hSw); go_simp; try with_reducible rfl)
  simp only [Act.put, List.getElem_toArray, List.getElem_cons_zero, List.getElem_cons_succ, List.setIfInBounds_toArray, List.set_cons_zero]
  refine wpAnyH_done (by kernel_rfl) ?_ _
  go_wp2
  go_ret
  exact ⟨rfl, HBW.out.1.trans (HC9.out.mono HBW.out.1.size)⟩
end Go.Proofs.YtiimmknnlciljaaDoor
