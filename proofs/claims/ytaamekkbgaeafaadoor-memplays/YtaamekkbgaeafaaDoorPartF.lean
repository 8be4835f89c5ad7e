/-
  What entry.Right, marlstoneref03.Right and entry.byKeyAndSeq answer: contracts over this translation. What entry.byKeyAndSeq answers, and the comparison's laws: a contract over this translation.
-/
import Derived.Test.YtaamekkbgaeafaaDoorCodec
import Derived.Shelf.SlSortCmp.InsertionK
import Derived.Shelf.Small.Strs
namespace Go.Proofs.YtaamekkbgaeafaaDoor
open Go.RowKit Go.Sort
/-- An entry. -/
structure E where
  key : ByteArray
  value : ByteArray
  del : Bool
  seq : Int
def encE (e : E) : List Value := [.string e.key, .string e.value, .bool e.del, .int .i64 e.seq]
def rightB (e : E) : Bool := decide (1 ≤ e.key.size ∧ e.key.size ≤ 128 ∧ e.value.size ≤ 1024 ∧ (e.del = true → e.value.size = 0) ∧ 1 ≤ e.seq ∧ e.seq ≤ 1099511627776)
theorem size_zero (s : ByteArray) : (s.size = 0) ↔ s = ByteArray.empty := by
  constructor
  · intro h; cases s with | mk d => simp [ByteArray.size] at h; subst h; rfl
  · intro h; subst h; rfl
set_option maxRecDepth 100000 in
set_option maxHeartbeats 1000000 in
theorem right_any (k v : ByteArray) (d : Bool) (q : Int) (w : World) (hk : k.size ≤ 9223372036854775807) (hv : v.size ≤ 9223372036854775807) :
    Calls Tryd.prog 26 #[.agg #[.string k, .string v, .bool d, .int .i64 q]] w fun r w' => r = .returned (.bool (rightB ⟨k, v, d, q⟩)) ∧ Below w.heap.size w w' := by
  obtain ⟨r, HR⟩ : ∃ r, Hid (rightB ⟨k, v, d, q⟩ = r) := ⟨_, rfl⟩
  rw [HR.out]
  by_cases a1 : 1 ≤ k.size
  · have b1 : (1 : Int) ≤ (k.size : Int) := by omega
    by_cases a2 : k.size ≤ 128
    · have b2 : (k.size : Int) ≤ 128 := by omega
      by_cases a3 : v.size ≤ 1024
      · have b3 : (v.size : Int) ≤ 1024 := by omega
        by_cases a4 : d = true → v.size = 0
        · have hd : d = false ∨ (d = true ∧ v = ByteArray.empty) := by
            cases d with
            | false => exact .inl rfl
            | true => exact .inr ⟨rfl, (size_zero v).1 (a4 rfl)⟩
          by_cases a5 : 1 ≤ q
          · by_cases a6 : q ≤ 1099511627776
            · have hr : r = true := by rw [← HR.out]; simp only [rightB, decide_eq_true_eq]; exact ⟨a1, a2, a3, a4, a5, a6⟩
              subst hr
              clear HR a4
              rcases hd with rfl | ⟨rfl, rfl⟩ <;> (go_enter Tryd.func26, Tryd.ntmps26; go_wp2; go_ret; exact ⟨rfl, bel_alloc _ _⟩)
            · have hr : r = false := by rw [← HR.out]; simp only [rightB, decide_eq_false_iff_not]; exact fun h => a6 h.2.2.2.2.2
              subst hr
              clear HR a4
              rcases hd with rfl | ⟨rfl, rfl⟩ <;> (go_enter Tryd.func26, Tryd.ntmps26; go_wp2; go_ret; exact ⟨rfl, bel_alloc _ _⟩)
          · have hr : r = false := by rw [← HR.out]; simp only [rightB, decide_eq_false_iff_not]; exact fun h => a5 h.2.2.2.2.1
            subst hr
            clear HR a4
            rcases hd with rfl | ⟨rfl, rfl⟩ <;> (go_enter Tryd.func26, Tryd.ntmps26; go_wp2; go_ret; exact ⟨rfl, bel_alloc _ _⟩)
        · have hr : r = false := by rw [← HR.out]; simp only [rightB, decide_eq_false_iff_not]; exact fun h => a4 h.2.2.2.1
          have hd : d = true := by cases d with | true => rfl | false => exact absurd (fun h => by cases h) a4
          subst hd
          have hve : (v.toList == []) = false := by
            have h0 : v.size ≠ 0 := fun h => a4 (fun _ => h)
            cases v with
            | mk data =>
              simp only [beq_eq_false_iff_ne, ne_eq]
              intro h
              apply h0
              have := congrArg List.length h
              simp [ByteArray.toList_eq] at this
              simpa [ByteArray.size] using this
          subst hr
          clear HR a4
          go_enter Tryd.func26, Tryd.ntmps26
          go_wp2
          go_ret
          exact ⟨rfl, bel_alloc _ _⟩
      · have b3 : ¬ ((v.size : Int) ≤ 1024) := by omega
        have hr : r = false := by rw [← HR.out]; simp only [rightB, decide_eq_false_iff_not]; exact fun h => a3 h.2.2.1
        subst hr
        clear HR
        go_enter Tryd.func26, Tryd.ntmps26
        go_wp2
        go_ret
        exact ⟨rfl, bel_alloc _ _⟩
    · have b2 : ¬ ((k.size : Int) ≤ 128) := by omega
      have hr : r = false := by rw [← HR.out]; simp only [rightB, decide_eq_false_iff_not]; exact fun h => a2 h.2.1
      subst hr
      clear HR
      go_enter Tryd.func26, Tryd.ntmps26
      go_wp2
      go_ret
      exact ⟨rfl, bel_alloc _ _⟩
  · have b1 : ¬ ((1 : Int) ≤ (k.size : Int)) := by omega
    have hr : r = false := by rw [← HR.out]; simp only [rightB, decide_eq_false_iff_not]; exact fun h => a1 h.1
    subst hr
    clear HR
    go_enter Tryd.func26, Tryd.ntmps26
    go_wp2
    go_ret
    exact ⟨rfl, bel_alloc _ _⟩
set_option maxRecDepth 100000 in
set_option maxHeartbeats 1000000 in
theorem refRight_any (k v : ByteArray) (d : Bool) (q : Int) (w : World) (hk : k.size ≤ 9223372036854775807) (hv : v.size ≤ 9223372036854775807) :
    Calls Tryd.prog 34 #[.agg #[.string k, .string v, .bool d, .int .i64 q]] w fun r w' => r = .returned (.bool (rightB ⟨k, v, d, q⟩)) ∧ Below w.heap.size w w' := by
  obtain ⟨r, HR⟩ : ∃ r, Hid (rightB ⟨k, v, d, q⟩ = r) := ⟨_, rfl⟩
  rw [HR.out]
  by_cases a1 : 1 ≤ k.size
  · have b1 : (1 : Int) ≤ (k.size : Int) := by omega
    by_cases a2 : k.size ≤ 128
    · have b2 : (k.size : Int) ≤ 128 := by omega
      by_cases a3 : v.size ≤ 1024
      · have b3 : (v.size : Int) ≤ 1024 := by omega
        by_cases a4 : d = true → v.size = 0
        · have hd : d = false ∨ (d = true ∧ v = ByteArray.empty) := by
            cases d with
            | false => exact .inl rfl
            | true => exact .inr ⟨rfl, (size_zero v).1 (a4 rfl)⟩
          by_cases a5 : 1 ≤ q
          · by_cases a6 : q ≤ 1099511627776
            · have hr : r = true := by rw [← HR.out]; simp only [rightB, decide_eq_true_eq]; exact ⟨a1, a2, a3, a4, a5, a6⟩
              subst hr
              clear HR a4
              rcases hd with rfl | ⟨rfl, rfl⟩ <;> (go_enter Tryd.func34, Tryd.ntmps34; go_wp2; go_ret; exact ⟨rfl, bel_alloc _ _⟩)
            · have hr : r = false := by rw [← HR.out]; simp only [rightB, decide_eq_false_iff_not]; exact fun h => a6 h.2.2.2.2.2
              subst hr
              clear HR a4
              rcases hd with rfl | ⟨rfl, rfl⟩ <;> (go_enter Tryd.func34, Tryd.ntmps34; go_wp2; go_ret; exact ⟨rfl, bel_alloc _ _⟩)
          · have hr : r = false := by rw [← HR.out]; simp only [rightB, decide_eq_false_iff_not]; exact fun h => a5 h.2.2.2.2.1
            subst hr
            clear HR a4
            rcases hd with rfl | ⟨rfl, rfl⟩ <;> (go_enter Tryd.func34, Tryd.ntmps34; go_wp2; go_ret; exact ⟨rfl, bel_alloc _ _⟩)
        · have hr : r = false := by rw [← HR.out]; simp only [rightB, decide_eq_false_iff_not]; exact fun h => a4 h.2.2.2.1
          have hd : d = true := by cases d with | true => rfl | false => exact absurd (fun h => by cases h) a4
          subst hd
          have hve : (v.toList == []) = false := by
            have h0 : v.size ≠ 0 := fun h => a4 (fun _ => h)
            cases v with
            | mk data =>
              simp only [beq_eq_false_iff_ne, ne_eq]
              intro h
              apply h0
              have := congrArg List.length h
              simp [ByteArray.toList_eq] at this
              simpa [ByteArray.size] using this
          subst hr
          clear HR a4
          go_enter Tryd.func34, Tryd.ntmps34
          go_wp2
          go_ret
          exact ⟨rfl, bel_alloc _ _⟩
      · have b3 : ¬ ((v.size : Int) ≤ 1024) := by omega
        have hr : r = false := by rw [← HR.out]; simp only [rightB, decide_eq_false_iff_not]; exact fun h => a3 h.2.2.1
        subst hr
        clear HR
        go_enter Tryd.func34, Tryd.ntmps34
        go_wp2
        go_ret
        exact ⟨rfl, bel_alloc _ _⟩
    · have b2 : ¬ ((k.size : Int) ≤ 128) := by omega
      have hr : r = false := by rw [← HR.out]; simp only [rightB, decide_eq_false_iff_not]; exact fun h => a2 h.2.1
      subst hr
      clear HR
      go_enter Tryd.func34, Tryd.ntmps34
      go_wp2
      go_ret
      exact ⟨rfl, bel_alloc _ _⟩
  · have b1 : ¬ ((1 : Int) ≤ (k.size : Int)) := by omega
    have hr : r = false := by rw [← HR.out]; simp only [rightB, decide_eq_false_iff_not]; exact fun h => a1 h.1
    subst hr
    clear HR
    go_enter Tryd.func34, Tryd.ntmps34
    go_wp2
    go_ret
    exact ⟨rfl, bel_alloc _ _⟩
/-- Two strings, byte by byte. -/
def cmpS (a b : ByteArray) : Int := Lib.compareBytes a.data.toList b.data.toList
def cmpI (x y : Int) : Int := if x < y then -1 else if y < x then 1 else 0
def cmpE (a b : E) : Int := if cmpS a.key b.key ≠ 0 then cmpS a.key b.key else cmpI a.seq b.seq
theorem cmpString_any (a b : ByteArray) (w : World) : Calls Tryd.prog 67 #[.string a, .string b] w fun e w' => e = .returned (.int .i64 (cmpS a b)) ∧ w' = w := by
  go_enter Tryd.func67, Tryd.ntmps67
  go_wp2
  rw [run_callFunc_extern Tryd.func77 (by kernel_rfl) (by kernel_rfl) (by kernel_rfl) (e := Extern.BytealgCompare.compare) (by kernel_rfl), Lib.run_compareString]
  simp only [Result.andThen]
  rw [Oper.upon_value]
  go_wp2
  go_ret
  exact ⟨rfl, rfl⟩
theorem compareS_any (a b : ByteArray) (w : World) : Calls Tryd.prog 55 #[.string a, .string b] w fun e w' => e = .returned (.int .i64 (cmpS a b)) ∧ w' = w := by
  go_enter Tryd.func55, Tryd.ntmps55
  go_wp2_with fail
  refine (cmpString_any a b _).mono ?_
  rintro e w' ⟨rfl, hw⟩
  subst hw
  go_wp2
  go_ret
  exact ⟨rfl, rfl⟩
set_option maxHeartbeats 1000000 in
theorem compareI_any (x y : Int) (w : World) : Calls Tryd.prog 56 #[.int .i64 x, .int .i64 y] w fun e w' => e = .returned (.int .i64 (cmpI x y)) ∧ w' = w := by
  by_cases h1 : x < y
  · have HC : Hid (cmpI x y = -1) := by show _ = _; rw [cmpI, if_pos h1]
    rw [HC.out]
    go_enter Tryd.func56, Tryd.ntmps56
    go_wp2
    go_ret
    exact ⟨rfl, rfl⟩
  · by_cases h2 : y < x
    · have HC : Hid (cmpI x y = 1) := by show _ = _; rw [cmpI, if_neg h1, if_pos h2]
      rw [HC.out]
      go_enter Tryd.func56, Tryd.ntmps56
      go_wp2
      go_ret
      exact ⟨rfl, rfl⟩
    · have HC : Hid (cmpI x y = 0) := by show _ = _; rw [cmpI, if_neg h1, if_neg h2]
      rw [HC.out]
      go_enter Tryd.func56, Tryd.ntmps56
      go_wp2
      go_ret
      exact ⟨rfl, rfl⟩
set_option maxHeartbeats 1000000 in
theorem or_any (g : Nat) (u v : Int) (w : World) (h0 : w.cell? ⟨g, 0, none⟩ = some (.int .i64 u)) (h1 : w.cell? ⟨g, 1, none⟩ = some (.int .i64 v)) :
    Calls Tryd.prog 54 #[.slice (some ⟨g, 0, none⟩) 2 2] w fun e w' => e = .returned (.int .i64 (if u ≠ 0 then u else v)) ∧ w' = w := by
  by_cases hu : u = 0
  · subst hu
    rw [if_neg (by simp)]
    by_cases hv : v = 0
    · subst hv
      go_enter Tryd.func54, Tryd.ntmps54
      go_wp2
      refine wp_loop_rounds 3 ?_
      rw [rounds_succ]
      go_wp2
      rw [rounds_succ]
      go_wp2
      rw [rounds_succ]
      go_wp2
      go_ret
      exact ⟨rfl, rfl⟩
    · have hv' : (v == 0) = false := by simpa using hv
      have hv2 : (v != 0) = true := by simpa using hv
      go_enter Tryd.func54, Tryd.ntmps54
      go_wp2
      refine wp_loop_rounds 2 ?_
      rw [rounds_succ]
      go_wp2
      rw [rounds_succ]
      go_wp2
      go_ret
      exact ⟨rfl, rfl⟩
  · rw [if_pos hu]
    have hu' : (u == 0) = false := by simpa using hu
    have hu2 : (u != 0) = true := by simpa using hu
    go_enter Tryd.func54, Tryd.ntmps54
    go_wp2
    refine wp_loop_rounds 1 ?_
    rw [rounds_succ]
    go_wp2
    go_ret
    exact ⟨rfl, rfl⟩
end Go.Proofs.YtaamekkbgaeafaaDoor
namespace Go.Proofs.YtaamekkbgaeafaaDoor
open Go.RowKit Go.Sort
theorem heap_alloc_get (w : World) (o : Obj) (i : Nat) : (w.alloc o).heap[i]? = if i = w.heap.size then some o else w.heap[i]? := by
  show (w.heap.push o)[i]? = _
  rw [Array.getElem?_push]
theorem pair_cell (u v : Value) (t : TypeId) (W : World) (g : Nat) (hg : g = W.heap.size) :
    (W.alloc (Obj.cells #[u, v] t)).drew.cell? ⟨g, 0, none⟩ = some u ∧ (W.alloc (Obj.cells #[u, v] t)).drew.cell? ⟨g, 1, none⟩ = some v := by
  have h : (W.alloc (Obj.cells #[u, v] t)).drew.heap[g]? = some (.cells #[u, v] t) := by
    show (W.alloc _).heap[g]? = _
    rw [heap_alloc_get, if_pos hg]
  exact ⟨by rw [cell_of_row _ _ _ _ _ _ h]; rfl, by rw [cell_of_row _ _ _ _ _ _ h]; rfl⟩
set_option maxRecDepth 100000 in
set_option maxHeartbeats 1000000 in
/-- byKeyAndSeq: two blocks and one more are laid, and it may draw. -/
theorem byKey_any (a b : E) (w : World) : Calls Tryd.prog 41 #[.agg (encE a).toArray, .agg (encE b).toArray] w fun e w' => e = .returned (.int .i64 (cmpE a b)) ∧ ∃ q os', w' = grow (w.drewN q) os' := by
  obtain ⟨k1, v1, d1, q1⟩ := a
  obtain ⟨k2, v2, d2, q2⟩ := b
  obtain ⟨c, HC⟩ : ∃ c, Hid (c = cmpS k1 k2) := ⟨_, rfl⟩
  obtain ⟨i, HI⟩ : ∃ i, Hid (i = cmpI q1 q2) := ⟨_, rfl⟩
  have HE : Hid (cmpE ⟨k1, v1, d1, q1⟩ ⟨k2, v2, d2, q2⟩ = if c ≠ 0 then c else i) := by show _ = _; rw [cmpE, HC.out, HI.out]
  rw [HE.out]
  obtain ⟨r, HR⟩ : ∃ r, Hid ((if c ≠ 0 then c else i) = r) := ⟨_, rfl⟩
  rw [HR.out]
  have HO : Hid (∀ g w, w.cell? ⟨g, 0, none⟩ = some (.int .i64 c) → w.cell? ⟨g, 1, none⟩ = some (.int .i64 i) → Calls Tryd.prog 54 #[.slice (some ⟨g, 0, none⟩) 2 2] w fun e w' => e = .returned (.int .i64 r) ∧ w' = w) := by
    show ∀ g w, _ → _ → _
    intro g w h0 h1; rw [← HR.out]; exact or_any g c i w h0 h1
  have C1 := fun w => compareS_any k1 k2 w
  have C2 := fun w => compareI_any q1 q2 w
  rw [← HC.out] at C1
  rw [← HI.out] at C2
  have HC1 : Hid (_) := C1
  have HC2 : Hid (_) := C2
  clear C1 C2
  simp only [encE]
  go_enter Tryd.func41, Tryd.ntmps41
  go_wp2_with fail
  go_region_held3 (fun w' => w'.cell? ⟨w.heap.size, 0, none⟩ = some (.string k1) ∧ w'.cell? ⟨w.heap.size + 1, 0, none⟩ = some (.string k2) ∧ w'.cell? ⟨w.heap.size, 3, none⟩ = some (.int .i64 q1) ∧ w'.cell? ⟨w.heap.size + 1, 3, none⟩ = some (.int .i64 q2)) (first | assumption | go_keep) (first | (go_at_call 55; refine (HC1.out _).mono ?_; rintro e w' ⟨rfl, rfl⟩) | (go_at_call 56; refine (HC2.out _).mono ?_; rintro e w' ⟨rfl, rfl⟩) | (go_at_call 54; refine (HO.out _ _ (pair_cell _ _ _ _ _ (by simp)).1 (pair_cell _ _ _ _ _ (by simp)).2).mono ?_; rintro e w' ⟨rfl, rfl⟩))
  all_goals go_wp2
  all_goals go_ret
  all_goals exact ⟨rfl, 1, _, by rw [alloc_eq_grow, alloc_eq_grow, alloc_eq_grow, grow_grow, grow_grow]; rfl⟩
variable [Inhabited E]
theorem byKeyLays (blk off size : Nat) (w : World) : CmpLays Tryd.prog 41 #[] encE 4 cmpE blk off size w :=
  fun _ _ _ _ x y => byKey_any x y _
end Go.Proofs.YtaamekkbgaeafaaDoor
