/-
  What isKey, possible and mayFollow of a summary answer, and one of the document: contracts over this translation.
-/
import Derived.Test.YtiimmknnlciljaaDoorSuB
import Derived.Test.YtiimmknnlciljaaDoorSLeaf
import Derived.Shelf.Small.Strs
namespace Go.Proofs.YtiimmknnlciljaaDoor
open Go.RowKit Go.Sort Go.Shelf
set_option linter.unusedSectionVars false
variable [Inhabited E] [DecidableEq E]
def oneC (lv ct : Int) (f l : ByteArray) : Prop := 0 ≤ lv ∧ lv < 4 ∧ 1 ≤ ct ∧ ct ≤ 64 ∧ keyB f = true ∧ keyB l = true ∧ cmpS f l ≤ 0 ∧ (f = l ↔ ct = 1)
noncomputable def oneCB (lv ct : Int) (f l : ByteArray) : Bool := @decide (oneC lv ct f l) (Classical.propDecidable _)
theorem oneCB_yes {lv ct : Int} {f l : ByteArray} (h : oneC lv ct f l) : oneCB lv ct f l = true := @decide_eq_true _ (Classical.propDecidable _) h
theorem oneCB_no {lv ct : Int} {f l : ByteArray} (h : ¬ oneC lv ct f l) : oneCB lv ct f l = false := @decide_eq_false _ (Classical.propDecidable _) h
theorem oneTB_C (x : Tb) : oneTB x = oneCB x.lv x.ct x.first x.last := rfl
def nextC (a : Int) (l : ByteArray) (b : Int) (f : ByteArray) : Prop := if a = b then b = 0 ∨ cmpS l f < 0 else a < b
noncomputable def nextCB (a : Int) (l : ByteArray) (b : Int) (f : ByteArray) : Bool := @decide (nextC a l b f) (Classical.propDecidable _)
theorem nextCB_yes {a b : Int} {l f : ByteArray} (h : nextC a l b f) : nextCB a l b f = true := @decide_eq_true _ (Classical.propDecidable _) h
theorem nextCB_no {a b : Int} {l f : ByteArray} (h : ¬ nextC a l b f) : nextCB a l b f = false := @decide_eq_false _ (Classical.propDecidable _) h
theorem nextTB_C (a x : Tb) : nextTB a x = nextCB a.lv a.last x.lv x.first := rfl
set_option maxRecDepth 100000 in
theorem isKey_any (s : ByteArray) (w : World) (hs : s.size ≤ 9223372036854775807) : Calls Tryd.prog 55 #[.string s] w fun e w' => e = .returned (.bool (keyB s)) ∧ w' = w := by
  by_cases h1 : 1 ≤ s.size
  · have b1 : (1 : Int) ≤ (s.size : Int) := by omega
    by_cases h2 : s.size ≤ 128
    · have b2 : (s.size : Int) ≤ 128 := by omega
      rw [show keyB s = true by simp [keyB, h1, h2]]
      go_enter Tryd.func55, Tryd.ntmps55
      go_wp2
      go_ret
      exact ⟨rfl, rfl⟩
    · have b2 : ¬ (s.size : Int) ≤ 128 := by omega
      rw [show keyB s = false by simp [keyB, h2]]
      go_enter Tryd.func55, Tryd.ntmps55
      go_wp2
      go_ret
      exact ⟨rfl, rfl⟩
  · have b1 : ¬ (1 : Int) ≤ (s.size : Int) := by omega
    rw [show keyB s = false by simp [keyB, h1]]
    go_enter Tryd.func55, Tryd.ntmps55
    go_wp2
    go_ret
    exact ⟨rfl, rfl⟩
set_option maxRecDepth 100000 in
set_option maxHeartbeats 4000000 in
theorem possible_any (cells : Array Value) (lv ct : Int) (f l : ByteArray) (w : World) (h0 : cells[0]? = some (.int .i64 lv)) (h1 : cells[1]? = some (.int .i64 ct)) (h34 : cells[34]? = some (.string f)) (h35 : cells[35]? = some (.string l)) (hf : f.size ≤ 9223372036854775807) (hl : l.size ≤ 9223372036854775807) :
    Calls Tryd.prog 37 #[.agg cells] w fun e w' => e = .returned (.bool (oneCB lv ct f l)) ∧ Below w.heap.size w w' := by
  have c0 := box_keys w cells 51 0 _ h0
  have c1 := box_keys w cells 51 1 _ h1
  have c34 := box_keys w cells 51 34 _ h34
  have c35 := box_keys w cells 51 35 _ h35
  have K1 : Hid (∀ w, Calls Tryd.prog 55 #[.string f] w fun e w' => e = .returned (.bool (keyB f)) ∧ w' = w) := fun w => isKey_any f w hf
  have K2 : Hid (∀ w, Calls Tryd.prog 55 #[.string l] w fun e w' => e = .returned (.bool (keyB l)) ∧ w' = w) := fun w => isKey_any l w hl
  have HEQ : Hid ((f.toList == l.toList) = decide (f = l)) := eq_cmpS f l
  obtain ⟨r, HR⟩ : ∃ r, Hid (oneCB lv ct f l = r) := ⟨_, rfl⟩
  rw [HR.out]
  have HF : Hid (¬ oneC lv ct f l → r = false) := fun h => by rw [← HR.out]; exact oneCB_no h
  have HT : Hid (oneC lv ct f l → r = true) := fun h => by rw [← HR.out]; exact oneCB_yes h
  clear h0 h1 h34 h35 hf hl HR
  go_enter Tryd.func37, Tryd.ntmps37
  by_cases a0 : 0 ≤ lv
  · by_cases a1 : lv < 4
    · by_cases a2 : 1 ≤ ct
      · by_cases a3 : ct ≤ 64
        · go_wp2_with fail
          refine (K1.out _).mono ?_
          rintro e w1 ⟨rfl, rfl⟩
          obtain ⟨k1, HK1⟩ : ∃ k, Hid (keyB f = k) := ⟨_, rfl⟩
          rw [HK1.out]
          cases k1 with
          | false =>
            obtain rfl := HF.out (fun h => by have := h.2.2.2.2.1; rw [HK1.out] at this; cases this)
            go_wp2
            go_ret
            exact ⟨rfl, bel_alloc _ _⟩
          | true =>
            go_wp2_with fail
            refine (K2.out _).mono ?_
            rintro e w1 ⟨rfl, rfl⟩
            obtain ⟨k2, HK2⟩ : ∃ k, Hid (keyB l = k) := ⟨_, rfl⟩
            rw [HK2.out]
            cases k2 with
            | false =>
              obtain rfl := HF.out (fun h => by have := h.2.2.2.2.2.1; rw [HK2.out] at this; cases this)
              go_wp2
              go_ret
              exact ⟨rfl, bel_alloc _ _⟩
            | true =>
              by_cases a4 : ct = 1
              · have A0 : Hid _ := And.intro a0 (And.intro a1 (And.intro a2 a3))
                clear a0 a1 a2 a3
                subst a4
                rcases le_cases f l with ⟨d1, d3⟩ | ⟨d1, d2, d3⟩ | ⟨d1, d2, d3⟩
                · have hne : (f.toList == l.toList) = false := by
                    rw [HEQ.out]; refine decide_eq_false fun h => ?_
                    rw [h] at d1; rw [less_cmpS] at d1; have := cmpS_ord.self l; simp [this] at d1
                  obtain rfl := HF.out (fun h => by have := h.2.2.2.2.2.2.2.2 rfl; rw [HEQ.out] at hne; exact absurd this (of_decide_eq_false hne))
                  clear d3 HEQ
                  go_wp2
                  go_ret
                  exact ⟨rfl, bel_alloc _ _⟩
                · obtain rfl := HT.out ⟨A0.out.1, A0.out.2.1, A0.out.2.2.1, A0.out.2.2.2, HK1.out, HK2.out, of_decide_eq_true d3, ⟨fun _ => rfl, fun _ => by rw [HEQ.out] at d2; exact of_decide_eq_true d2⟩⟩
                  clear d3 HEQ
                  go_wp2
                  go_ret
                  exact ⟨rfl, bel_alloc _ _⟩
                · obtain rfl := HF.out (fun h => absurd h.2.2.2.2.2.2.1 (of_decide_eq_false d3))
                  clear d3 HEQ
                  go_wp2
                  go_ret
                  exact ⟨rfl, bel_alloc _ _⟩
              · have A0 : Hid _ := And.intro a0 (And.intro a1 (And.intro a2 a3))
                clear a0 a1 a2 a3
                have a5 : (ct == 1) = false := by simpa using a4
                have A4 : Hid (¬ ct = 1) := a4
                clear a4
                rcases le_cases f l with ⟨d1, d3⟩ | ⟨d1, d2, d3⟩ | ⟨d1, d2, d3⟩
                · have hne : (f.toList == l.toList) = false := by
                    rw [HEQ.out]; refine decide_eq_false fun h => ?_
                    rw [h] at d1; rw [less_cmpS] at d1; have := cmpS_ord.self l; simp [this] at d1
                  obtain rfl := HT.out ⟨A0.out.1, A0.out.2.1, A0.out.2.2.1, A0.out.2.2.2, HK1.out, HK2.out, of_decide_eq_true d3, ⟨fun h => by rw [HEQ.out] at hne; exact absurd h (of_decide_eq_false hne), fun h => absurd h A4.out⟩⟩
                  clear d3 HEQ
                  go_wp2
                  go_ret
                  exact ⟨rfl, bel_alloc _ _⟩
                · obtain rfl := HF.out (fun h => A4.out (h.2.2.2.2.2.2.2.1 (by rw [HEQ.out] at d2; exact of_decide_eq_true d2)))
                  clear d3 HEQ
                  go_wp2
                  go_ret
                  exact ⟨rfl, bel_alloc _ _⟩
                · obtain rfl := HF.out (fun h => absurd h.2.2.2.2.2.2.1 (of_decide_eq_false d3))
                  clear d3 HEQ
                  go_wp2
                  go_ret
                  exact ⟨rfl, bel_alloc _ _⟩
        · obtain rfl := HF.out (fun h => a3 h.2.2.2.1)
          go_wp2
          go_ret
          exact ⟨rfl, bel_alloc _ _⟩
      · obtain rfl := HF.out (fun h => a2 h.2.2.1)
        go_wp2
        go_ret
        exact ⟨rfl, bel_alloc _ _⟩
    · obtain rfl := HF.out (fun h => a1 h.2.1)
      go_wp2
      go_ret
      exact ⟨rfl, bel_alloc _ _⟩
  · obtain rfl := HF.out (fun h => a0 h.1)
    go_wp2
    go_ret
    exact ⟨rfl, bel_alloc _ _⟩
set_option maxRecDepth 100000 in
set_option maxHeartbeats 4000000 in
theorem mayFollow_any (ca cb : Array Value) (a b : Int) (l f : ByteArray) (w : World) (h0 : ca[0]? = some (.int .i64 a)) (h35 : ca[35]? = some (.string l)) (k0 : cb[0]? = some (.int .i64 b)) (k34 : cb[34]? = some (.string f)) :
    Calls Tryd.prog 38 #[.agg ca, .agg cb] w fun e w' => e = .returned (.bool (nextCB a l b f)) ∧ Below w.heap.size w w' := by
  have hfr := Sm.frame2 w (.cells ca 51) cb 51
  have c0 : ((w.alloc (.cells ca 51)).alloc (.cells cb 51)).cell? ⟨w.heap.size, 0, none⟩ = some (.int .i64 a) := by rw [cell_of_row _ _ _ _ _ _ hfr.1]; exact h0
  have c35 : ((w.alloc (.cells ca 51)).alloc (.cells cb 51)).cell? ⟨w.heap.size, 35, none⟩ = some (.string l) := by rw [cell_of_row _ _ _ _ _ _ hfr.1]; exact h35
  have d0 : ((w.alloc (.cells ca 51)).alloc (.cells cb 51)).cell? ⟨w.heap.size + 1, 0, none⟩ = some (.int .i64 b) := by rw [cell_of_row _ _ _ _ _ _ hfr.2.1]; exact k0
  have d34 : ((w.alloc (.cells ca 51)).alloc (.cells cb 51)).cell? ⟨w.heap.size + 1, 34, none⟩ = some (.string f) := by rw [cell_of_row _ _ _ _ _ _ hfr.2.1]; exact k34
  have HB : Hid (Below w.heap.size w ((w.alloc (.cells ca 51)).alloc (.cells cb 51))) := hfr.2.2.1
  have e1 := less_cmpS l f
  obtain ⟨r, HR⟩ : ∃ r, Hid (nextCB a l b f = r) := ⟨_, rfl⟩
  rw [HR.out]
  have HF : Hid (¬ nextC a l b f → r = false) := fun h => by rw [← HR.out]; exact nextCB_no h
  have HT : Hid (nextC a l b f → r = true) := fun h => by rw [← HR.out]; exact nextCB_yes h
  clear h0 h35 k0 k34 hfr HR
  by_cases q : a = b
  · subst q
    by_cases z : a = 0
    · subst z
      obtain rfl := HT.out (by unfold nextC; rw [if_pos rfl]; exact .inl rfl)
      clear e1
      go_enter Tryd.func38, Tryd.ntmps38
      go_wp2
      go_ret
      exact ⟨rfl, HB.out⟩
    · have z2 : (a == 0) = false := by simpa using z
      by_cases s : cmpS l f < 0
      · obtain rfl := HT.out (by unfold nextC; rw [if_pos rfl]; exact .inr s)
        rw [decide_eq_true s] at e1
        clear s z
        go_enter Tryd.func38, Tryd.ntmps38
        go_wp2
        go_ret
        exact ⟨rfl, HB.out⟩
      · obtain rfl := HF.out (by unfold nextC; rw [if_pos rfl]; exact fun h => h.elim z s)
        rw [decide_eq_false s] at e1
        clear s z
        go_enter Tryd.func38, Tryd.ntmps38
        go_wp2
        go_ret
        exact ⟨rfl, HB.out⟩
  · have q2 : (a != b) = true := by simpa using q
    clear e1
    by_cases s : a < b
    · obtain rfl := HT.out (by unfold nextC; rw [if_neg q]; exact s)
      clear q
      go_enter Tryd.func38, Tryd.ntmps38
      go_wp2
      go_ret
      exact ⟨rfl, HB.out⟩
    · obtain rfl := HF.out (by unfold nextC; rw [if_neg q]; exact s)
      clear q
      go_enter Tryd.func38, Tryd.ntmps38
      go_wp2
      go_ret
      exact ⟨rfl, HB.out⟩
end Go.Proofs.YtiimmknnlciljaaDoor
