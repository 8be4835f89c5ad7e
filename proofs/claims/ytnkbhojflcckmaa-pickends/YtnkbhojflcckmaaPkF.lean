/-
  What first, last, wayDown and has answer, Cap and the document's: contracts over this translation.
-/
import Derived.Test.YtnkbhojflcckmaaPkB
namespace Go.Proofs.Ytnkbhojflcckmaa
open Go.RowKit
set_option linter.unusedSectionVars false
theorem box_keys (w : World) (cells : Array Value) (t : TypeId) (i : Nat) (v : Value) (h : cells[i]? = some v) : (w.alloc (.cells cells t)).cell? ⟨w.heap.size, i, none⟩ = some v := by
  rw [cell_of_row _ _ _ _ _ _ (heap_alloc_new w _)]
  exact h
theorem enc_at (x : Tb) {i : Nat} {v : Value} (h : (encT x)[i]? = some v) : (encT x).toArray[i]? = some v := by simpa using h
theorem first_any (x : Tb) (w : World) : Calls Try.prog 29 #[.agg (encT x).toArray] w fun e w' => e = .returned (.string x.first) ∧ Below w.heap.size w w' := by
  have c1 := box_keys w (encT x).toArray 53 34 _ (enc_at x (encT_34 x))
  go_enter Try.func29, Try.ntmps29
  go_wp2
  go_ret
  exact ⟨rfl, bel_alloc _ _⟩
theorem last_any (x : Tb) (w : World) : Calls Try.prog 31 #[.agg (encT x).toArray] w fun e w' => e = .returned (.string x.last) ∧ Below w.heap.size w w' := by
  have c1 := box_keys w (encT x).toArray 53 35 _ (enc_at x (encT_35 x))
  go_enter Try.func31, Try.ntmps31
  go_wp2
  go_ret
  exact ⟨rfl, bel_alloc _ _⟩
/-- What a table adds to the score. -/
def wayT (x : Tb) : Int := if 0 ≤ x.lv ∧ x.lv ≤ 3 then wrap64 (x.ct * (3 - x.lv)) else 0
theorem way_any (x : Tb) (w : World) : Calls Try.prog 26 #[.agg (encT x).toArray] w fun e w' => e = .returned (.int .i64 (wayT x)) ∧ Below w.heap.size w w' := by
  have c0 := box_keys w (encT x).toArray 53 0 _ (enc_at x (encT_0 x))
  have c1 := box_keys w (encT x).toArray 53 1 _ (enc_at x (encT_1 x))
  by_cases h1 : x.lv < 0
  · have HC : Hid (wayT x = 0) := by show _ = _; rw [wayT, if_neg (by omega)]
    rw [HC.out]
    go_enter Try.func26, Try.ntmps26
    go_wp2
    go_ret
    exact ⟨rfl, bel_alloc _ _⟩
  · by_cases h2 : 3 < x.lv
    · have HC : Hid (wayT x = 0) := by show _ = _; rw [wayT, if_neg (by omega)]
      rw [HC.out]
      go_enter Try.func26, Try.ntmps26
      go_wp2
      go_ret
      exact ⟨rfl, bel_alloc _ _⟩
    · have HC : Hid (wayT x = wrap64 (x.ct * (3 - x.lv))) := by show _ = _; rw [wayT, if_pos (by omega)]
      rw [HC.out]
      go_enter Try.func26, Try.ntmps26
      go_wp2
      go_ret
      exact ⟨rfl, bel_alloc _ _⟩
/-- How many tables a level may have. -/
def capI (l : Int) : Int := if l = 0 then 4 else if l = 1 then 8 else if l = 2 then 32 else -1
theorem cap_any (l : Int) (w : World) : Calls Try.prog 14 #[.int .i64 l] w fun e w' => e = .returned (.int .i64 (capI l)) ∧ w' = w := by
  by_cases h0 : l = 0
  · subst h0
    go_enter Try.func14, Try.ntmps14
    go_wp2
    go_ret
    exact ⟨rfl, rfl⟩
  · by_cases h1 : l = 1
    · subst h1
      go_enter Try.func14, Try.ntmps14
      go_wp2
      go_ret
      exact ⟨rfl, rfl⟩
    · by_cases h2 : l = 2
      · subst h2
        go_enter Try.func14, Try.ntmps14
        go_wp2
        go_ret
        exact ⟨rfl, rfl⟩
      · have HC : Hid (capI l = -1) := by show _ = _; rw [capI, if_neg h0, if_neg h1, if_neg h2]
        rw [HC.out]
        go_enter Try.func14, Try.ntmps14
        go_wp2
        go_ret
        exact ⟨rfl, rfl⟩
theorem refCap_any (l : Int) (w : World) : Calls Try.prog 15 #[.int .i64 l] w fun e w' => e = .returned (.int .i64 (capI l)) ∧ w' = w := by
  by_cases h0 : l = 0
  · subst h0
    go_enter Try.func15, Try.ntmps15
    go_wp2
    go_ret
    exact ⟨rfl, rfl⟩
  · by_cases h1 : l = 1
    · subst h1
      go_enter Try.func15, Try.ntmps15
      go_wp2
      go_ret
      exact ⟨rfl, rfl⟩
    · by_cases h2 : l = 2
      · subst h2
        go_enter Try.func15, Try.ntmps15
        go_wp2
        go_ret
        exact ⟨rfl, rfl⟩
      · have HC : Hid (capI l = -1) := by show _ = _; rw [capI, if_neg h0, if_neg h1, if_neg h2]
        rw [HC.out]
        go_enter Try.func15, Try.ntmps15
        go_wp2
        go_ret
        exact ⟨rfl, rfl⟩
/-- 'of this level'. -/
theorem has_any (l : Int) (x : Tb) (w : World) : Calls Try.prog 19 #[.int .i64 l, .agg (encT x).toArray] w fun e w' => e = .returned (.bool (decide (x.lv = l))) ∧ Below w.heap.size w w' := by
  have c0 := box_keys w (encT x).toArray 32 0 _ (enc_at x (encT_0 x))
  obtain ⟨b, HB⟩ : ∃ b, Hid (decide (x.lv = l) = b) := ⟨_, rfl⟩
  rw [HB.out]
  by_cases h : x.lv = l
  · have hb : b = true := by rw [← HB.out]; exact decide_eq_true h
    subst hb
    go_enter Try.func19, Try.ntmps19
    go_wp2
    go_ret
    exact ⟨by first | rfl | (simp; done) | (simp [h]; done), bel_alloc _ _⟩
  · have hb : b = false := by rw [← HB.out]; exact decide_eq_false h
    subst hb
    go_enter Try.func19, Try.ntmps19
    go_wp2
    go_ret
    exact ⟨by first | rfl | (simp; done) | (simp [h]; done), bel_alloc _ _⟩
end Go.Proofs.Ytnkbhojflcckmaa
