/-
  What a summary's reader takes off its bytes: pass, number and text: contracts over this translation.
-/
import Derived.Test.YtiimmknnlciljaaDoorSuY
namespace Go.Proofs.YtiimmknnlciljaaDoor
open Go.RowKit Go.Sort Go.Shelf
set_option linter.unusedSectionVars false
variable [Inhabited E] [DecidableEq E]
/-- A reader lies at g: what is left, and whether it is bad. -/
def RdAt (w : World) (g B : Nat) (R : List UInt8) (bad : Bool) : Prop :=
  ∃ ao n c, w.heap[g]? = some (.cells #[.slice ao n c, .bool bad] 64 (0, 0)) ∧ Bytes w ao n R ∧ (ao = none → c = 0) ∧ n ≤ c ∧ c ≤ 9223372036854775807 ∧ (0 < n → ∀ x, ao = some x → x.block ≠ g ∧ x.block < B)
theorem RdAt.lt {w : World} {g B : Nat} {R : List UInt8} {bad : Bool} (h : RdAt w g B R bad) : g < w.heap.size := by
  obtain ⟨ao, n, c, h1, -⟩ := h
  exact (Array.getElem?_eq_some_iff.1 h1).1
theorem bytes_blk {w : World} {ao : Option Addr} {n : Nat} {R : List UInt8} (h : Bytes w ao n R) (hp : 0 < R.length) : ∃ b off, ao = some ⟨b, off, none⟩ ∧ b < w.heap.size := by
  obtain ⟨b, off, h1, h2⟩ := bytes_at h (by rw [← h.1]; exact hp)
  exact ⟨b, off, h1, World.block_lt_of_cell? w _ (h2 0 hp)⟩
theorem bytes_zero {w w' : World} {ao : Option Addr} {n : Nat} {R : List UInt8} (h : Bytes w ao n R) (h0 : n = 0) : Bytes w' ao n R :=
  ⟨h.1, fun i c hi => by have := (List.getElem?_eq_some_iff.1 hi).1; have := h.1; omega⟩
/-- Kept where all old blocks are. -/
theorem RdAt.keep {w w' : World} {g B : Nat} {R : List UInt8} {bad : Bool} (h : RdAt w g B R bad) (hb : Below w.heap.size w w') : RdAt w' g B R bad := by
  have hl := h.lt
  obtain ⟨ao, n, c, h1, h2, h3, h4, h5, h6⟩ := h
  exact ⟨ao, n, c, (hb.block g hl).trans h1, bytes_kept h2 hb (Nat.le_refl _), h3, h4, h5, h6⟩
/-- Kept where another block changes, one that is none of those that were there. -/
theorem RdAt.far {w w' : World} {g B k : Nat} {R : List UInt8} {bad : Bool} (h : RdAt w g B R bad) (hc : Sm.Chg k w w') (hk : g ≠ k) (hB : B ≤ k) : RdAt w' g B R bad := by
  have hl := h.lt
  obtain ⟨ao, n, c, h1, h2, h3, h4, h5, h6⟩ := h
  refine ⟨ao, n, c, (hc.block g hl hk).trans h1, ?_, h3, h4, h5, h6⟩
  by_cases hp : 0 < n
  · exact Sm.bytes_chg h2 hc (fun x hx => by have := (h6 hp x hx).2; omega)
  · exact bytes_zero h2 (by omega)
theorem RdAt.len {w : World} {g B : Nat} {R : List UInt8} {bad : Bool} (h : RdAt w g B R bad) : R.length ≤ 9223372036854775807 := by
  obtain ⟨ao, n, c, h1, h2, h3, h4, h5, h6⟩ := h
  rw [h2.1]; omega
theorem wrap_in {k : Nat} (h : k ≤ 9223372036854775807) : IntKind.i64.wrap (k : Int) = (k : Int) := by rw [IntKind.wrap_i64]; omega
set_option maxRecDepth 100000 in
set_option maxHeartbeats 2000000 in
theorem pass_no (g B : Nat) (R : List UInt8) (bad : Bool) (k : Int) (w : World) (h : RdAt w g B R bad) :
    Calls Tryd.prog 57 #[.pointer (some ⟨g, 0, none⟩), .int .i64 k, .bool false] w fun e w' => e = .returned (.tuple #[]) ∧ RdAt w' g B [] true ∧ Sm.Chg g w w' ∧ w'.heap.size = w.heap.size := by
  obtain ⟨ao, n, c, h1, h2, h3, h4, h5, h6⟩ := h
  have c0 : w.cell? ⟨g, 0, none⟩ = some (.slice ao n c) := by rw [cell_of_row _ _ _ _ _ _ h1]; rfl
  have c1 : w.cell? ⟨g, 1, none⟩ = some (.bool bad) := by rw [cell_of_row _ _ _ _ _ _ h1]; rfl
  have f0 := frozen_of_row w g 0 _ 64 h1
  have f1 := frozen_of_row w g 1 _ 64 h1
  have e1 : w.setCell ⟨g, 1, none⟩ (.bool true) = w.setRow g #[.slice ao n c, .bool true] := by rw [setCell_eq_setRow w g 1 _ 64 (0, 0) _ h1]; rfl
  have r1 : (w.setCell ⟨g, 1, none⟩ (.bool true)).heap[g]? = some (.cells #[.slice ao n c, .bool true] 64 (0, 0)) := by rw [e1]; exact setRow_heap w g _ _ 64 (0, 0) h1
  have e2 : (w.setCell ⟨g, 1, none⟩ (.bool true)).setCell ⟨g, 0, none⟩ (.slice none 0 0) = (w.setCell ⟨g, 1, none⟩ (.bool true)).setRow g #[.slice none 0 0, .bool true] := by rw [setCell_eq_setRow _ g 0 _ 64 (0, 0) _ r1]; rfl
  have HH : Hid (RdAt ((w.setCell ⟨g, 1, none⟩ (.bool true)).setCell ⟨g, 0, none⟩ (.slice none 0 0)) g B [] true) := by
    show RdAt _ _ _ _ _
    rw [e2]
    exact ⟨none, 0, 0, setRow_heap _ g _ _ 64 (0, 0) r1, bytes_nil _, fun _ => rfl, Nat.le_refl _, by omega, fun hp => absurd hp (by omega)⟩
  have HC : Hid (Sm.Chg g w ((w.setCell ⟨g, 1, none⟩ (.bool true)).setCell ⟨g, 0, none⟩ (.slice none 0 0))) := by
    show Sm.Chg _ _ _
    rw [e2, e1]
    exact ((Sm.Chg.refl g w).row _).row _
  have HZ : Hid (((w.setCell ⟨g, 1, none⟩ (.bool true)).setCell ⟨g, 0, none⟩ (.slice none 0 0)).heap.size = w.heap.size) := by show _ = _; simp
  clear h1 h2 h3 h4 h5 h6 e1 e2 r1
  go_enter Tryd.func57, Tryd.ntmps57
  go_wp2
  refine bodyPost_ret (results_none rfl _ _ _) rfl ?_
  exact ⟨rfl, HH.out, HC.out, HZ.out⟩
set_option maxRecDepth 100000 in
set_option maxHeartbeats 2000000 in
theorem pass_yes (g B : Nat) (R : List UInt8) (bad : Bool) (k : Nat) (w : World) (h : RdAt w g B R bad) (hk : k ≤ R.length) (hk0 : 0 < k) :
    Calls Tryd.prog 57 #[.pointer (some ⟨g, 0, none⟩), .int .i64 k, .bool true] w fun e w' => e = .returned (.tuple #[]) ∧ RdAt w' g B (R.drop k) bad ∧ Sm.Chg g w w' ∧ w'.heap.size = w.heap.size := by
  obtain ⟨ao, n, c, h1, h2, h3, h4, h5, h6⟩ := h
  obtain ⟨b, off, rfl, hbl⟩ := bytes_blk h2 (by omega)
  have hn := h2.1
  have hbg : b ≠ g ∧ b < B := h6 (by omega) _ rfl
  have c0 : w.cell? ⟨g, 0, none⟩ = some (.slice (some ⟨b, off, none⟩) n c) := by rw [cell_of_row _ _ _ _ _ _ h1]; rfl
  have f0 := frozen_of_row w g 0 _ 64 h1
  have hkc : (k : Int) ≤ (c : Int) := by omega
  have hkn : (k : Int) ≤ (n : Int) := by omega
  have HG : Hid (∀ ad, (∀ x, ad = some x → x.block ≠ g ∧ x.block < B) → (∀ W, Sm.Chg g w W → Bytes W ad (n - k) (R.drop k)) → (ad = none → c - k = 0) → RdAt (w.setCell ⟨g, 0, none⟩ (.slice ad (n - k) (c - k))) g B (R.drop k) bad ∧ Sm.Chg g w (w.setCell ⟨g, 0, none⟩ (.slice ad (n - k) (c - k))) ∧ (w.setCell ⟨g, 0, none⟩ (.slice ad (n - k) (c - k))).heap.size = w.heap.size) := fun ad a1 a2 a3 => by
    have e1 : w.setCell ⟨g, 0, none⟩ (.slice ad (n - k) (c - k)) = w.setRow g #[.slice ad (n - k) (c - k), .bool bad] := by rw [setCell_eq_setRow w g 0 _ 64 (0, 0) _ h1]; rfl
    have hc : Sm.Chg g w (w.setCell ⟨g, 0, none⟩ (.slice ad (n - k) (c - k))) := by rw [e1]; exact (Sm.Chg.refl g w).row _
    refine ⟨⟨ad, n - k, c - k, ?_, a2 _ hc, a3, by omega, by omega, fun _ => a1⟩, hc, by simp⟩
    rw [e1]; exact setRow_heap w g _ _ 64 (0, 0) h1
  have HBY : Hid (∀ W, Sm.Chg g w W → Bytes W (some ⟨b, off + k, none⟩) (n - k) (R.drop k)) := fun W hW => bytes_drop (Sm.bytes_chg h2 hW (fun x hx => by cases hx; exact hbg.1)) k
  clear h1 h2 h3 h6
  by_cases hcn : c = k
  · have hnk : n = k := by omega
    subst hnk
    subst hcn
    have HN : Hid (R.drop c = []) := by show _ = _; rw [← hn]; exact List.drop_length
    go_enter Tryd.func57, Tryd.ntmps57
    go_wp2_with fail
    refine bodyPost_end (results_none rfl _ _ _) rfl ?_
    have := HG.out (some ⟨b, off, none⟩) (fun x hx => by cases hx; exact hbg) (fun W _ => by rw [HN.out, Nat.sub_self]; exact ⟨rfl, fun i c hi => by simp at hi⟩) (fun h => by cases h)
    rw [Nat.sub_self] at this
    exact ⟨rfl, this⟩
  · have hck : (k : Int) < (c : Int) := by omega
    have hcn2 : ¬ (c : Int) = (k : Int) := by omega
    go_enter Tryd.func57, Tryd.ntmps57
    go_wp2_with fail
    refine bodyPost_end (results_none rfl _ _ _) rfl ?_
    exact ⟨rfl, HG.out (some ⟨b, off + k, none⟩) (fun x hx => by cases hx; exact hbg) HBY.out (fun h => by cases h)⟩
/-- What number takes. -/
def rdN (R : List UInt8) (bad : Bool) : Nat × List UInt8 × Bool := if (getB R).2.2 = true then ((getB R).1, R.drop (getB R).2.1, bad) else (0, [], true)
/-- What text takes. -/
def rdX (R : List UInt8) (bad : Bool) : List UInt8 × List UInt8 × Bool := if (textOf R).2.2 = true then ((textOf R).1, R.drop (textOf R).2.1, bad) else ([], [], true)
set_option maxRecDepth 100000 in
set_option maxHeartbeats 2000000 in
theorem number_any (g B : Nat) (R : List UInt8) (bad : Bool) (w : World) (h : RdAt w g B R bad) :
    Calls Tryd.prog 56 #[.pointer (some ⟨g, 0, none⟩)] w fun e w' => e = .returned (.int .u64 (rdN R bad).1) ∧ RdAt w' g B (rdN R bad).2.1 (rdN R bad).2.2 ∧ Sm.Chg g w w' ∧ w'.heap.size = w.heap.size := by
  have HRD : Hid (RdAt w g B R bad) := h
  obtain ⟨ao, n, c, h1, h2, h3, h4, h5, h6⟩ := h
  have c0 : w.cell? ⟨g, 0, none⟩ = some (.slice ao n c) := by rw [cell_of_row _ _ _ _ _ _ h1]; rfl
  have HG : Hid (Calls Tryd.prog 69 #[.slice ao n c] w fun e w' => e = .returned (.tuple #[.int .u64 (getB R).1, .int .i64 (getB R).2.1, .bool (getB R).2.2]) ∧ w' = w) := get_any ao n c R w h2 (by omega)
  obtain ⟨⟨v, k, ok⟩, HX⟩ : ∃ x, Hid (getB R = x) := ⟨_, rfl⟩
  unfold rdN
  rw [HX.out] at HG ⊢
  clear h1 h2 h3 h4 h5 h6
  cases ok with
  | true =>
    have hk := getB_once _ _ _ HX.out
    have HP : Hid _ := pass_yes g B R bad k w HRD.out hk.2.2.1 hk.2.1
    clear hk
    go_enter Tryd.func56, Tryd.ntmps56
    go_wp2_with fail
    refine Calls.mono HG.out ?_
    rintro e w1 ⟨rfl, rfl⟩
    go_wp2_with fail
    refine Calls.mono HP.out ?_
    rintro e w2 ⟨rfl, hN⟩
    have HN : Hid _ := hN
    clear hN
    go_wp2
    go_ret
    exact ⟨rfl, HN.out⟩
  | false =>
    have HV : Hid (v = 0) := (getB_no R v k HX.out).1
    have HP : Hid _ := pass_no g B R bad k w HRD.out
    go_enter Tryd.func56, Tryd.ntmps56
    go_wp2_with fail
    refine Calls.mono HG.out ?_
    rintro e w1 ⟨rfl, rfl⟩
    go_wp2_with fail
    refine Calls.mono HP.out ?_
    rintro e w2 ⟨rfl, hN⟩
    have HN : Hid _ := hN
    clear hN
    go_wp2
    go_ret
    exact ⟨by rw [HV.out]; rfl, HN.out⟩
theorem textOf_yes {R : List UInt8} {t : List UInt8} {k : Nat} (h : textOf R = (t, k, true)) : 0 < k ∧ k ≤ R.length := by
  unfold textOf at h
  split at h
  · cases h
  · rename_i hc
    simp only [Prod.mk.injEq] at h
    have hg : getB R = ((getB R).1, (getB R).2.1, true) := by
      have : (getB R).2.2 = true := by
        cases hh : (getB R).2.2 with
        | true => rfl
        | false => exact absurd (.inl hh) hc
      rw [← this]
    have := getB_once _ _ _ hg
    have h2 : ¬ R.length - (getB R).2.1 < (getB R).1 := fun hh => hc (.inr hh)
    omega
theorem textOf_no {R : List UInt8} {t : List UInt8} {k : Nat} (h : textOf R = (t, k, false)) : t = [] := by
  unfold textOf at h
  split at h
  · simp only [Prod.mk.injEq] at h; exact h.1.symm
  · simp at h
set_option maxRecDepth 100000 in
set_option maxHeartbeats 2000000 in
theorem textRd_any (g B : Nat) (R : List UInt8) (bad : Bool) (w : World) (h : RdAt w g B R bad) :
    Calls Tryd.prog 71 #[.pointer (some ⟨g, 0, none⟩)] w fun e w' => e = .returned (.string ⟨(rdX R bad).1.toArray⟩) ∧ RdAt w' g B (rdX R bad).2.1 (rdX R bad).2.2 ∧ Sm.Chg g w w' ∧ w'.heap.size = w.heap.size := by
  have HRD : Hid (RdAt w g B R bad) := h
  obtain ⟨ao, n, c, h1, h2, h3, h4, h5, h6⟩ := h
  have c0 : w.cell? ⟨g, 0, none⟩ = some (.slice ao n c) := by rw [cell_of_row _ _ _ _ _ _ h1]; rfl
  have HG : Hid (Calls Tryd.prog 73 #[.slice ao n c] w fun e w' => e = .returned (.tuple #[.string ⟨(textOf R).1.toArray⟩, .int .i64 (textOf R).2.1, .bool (textOf R).2.2]) ∧ w' = w) := text_any ao n c R w h2 h4 h5
  obtain ⟨⟨v, k, ok⟩, HX⟩ : ∃ x, Hid (textOf R = x) := ⟨_, rfl⟩
  unfold rdX
  rw [HX.out] at HG ⊢
  clear h1 h2 h3 h4 h5 h6
  cases ok with
  | true =>
    have hk := textOf_yes HX.out
    have HP : Hid _ := pass_yes g B R bad k w HRD.out hk.2 hk.1
    clear hk
    go_enter Tryd.func71, Tryd.ntmps71
    go_wp2_with fail
    refine Calls.mono HG.out ?_
    rintro e w1 ⟨rfl, rfl⟩
    go_wp2_with fail
    refine Calls.mono HP.out ?_
    rintro e w2 ⟨rfl, hN⟩
    have HN : Hid _ := hN
    clear hN
    go_wp2
    go_ret
    exact ⟨rfl, HN.out⟩
  | false =>
    have HV : Hid (v = []) := textOf_no HX.out
    have HP : Hid _ := pass_no g B R bad k w HRD.out
    go_enter Tryd.func71, Tryd.ntmps71
    go_wp2_with fail
    refine Calls.mono HG.out ?_
    rintro e w1 ⟨rfl, rfl⟩
    go_wp2_with fail
    refine Calls.mono HP.out ?_
    rintro e w2 ⟨rfl, hN⟩
    have HN : Hid _ := hN
    clear hN
    go_wp2
    go_ret
    exact ⟨by rw [HV.out]; rfl, HN.out⟩
end Go.Proofs.YtiimmknnlciljaaDoor
