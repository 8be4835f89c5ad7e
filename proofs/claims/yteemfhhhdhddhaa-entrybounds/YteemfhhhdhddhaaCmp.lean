/-
  What entry.Right, marlstoneref03.Right and entry.byKeyAndSeq answer: contracts over this translation.
-/
import Derived.Test.YteemfhhhdhddhaaCodec
import Derived.Shelf.SlSortCmp.InsertionK
import Derived.Shelf.Small.Strs
namespace Go.Proofs.Yteemfhhhdhddhaa
open Go.RowKit Go.Sort
/-- An entry. -/
structure E where
  key : ByteArray
  value : ByteArray
  del : Bool
  seq : Int
def encE (e : E) : List Value := [.string e.key, .string e.value, .bool e.del, .int .i64 e.seq]
def rightB (e : E) : Bool := decide (1 ≤ e.key.size ∧ e.key.size ≤ 128 ∧ e.value.size ≤ 1024 ∧ (e.del = true → e.value.size = 0) ∧ 1 ≤ e.seq ∧ e.seq ≤ 1099511627776)
theorem size_zero (s : ByteArray) : (s.size = 0) ↔ s = ByteArray.empty := by
  constructor
  · intro h; cases s with | mk d => simp [ByteArray.size] at h; subst h; rfl
  · intro h; subst h; rfl
set_option maxRecDepth 100000 in
set_option maxHeartbeats 1000000 in
theorem right_any (k v : ByteArray) (d : Bool) (q : Int) (w : World) (hk : k.size ≤ 9223372036854775807) (hv : v.size ≤ 9223372036854775807) :
    Calls Try.prog 22 #[.agg #[.string k, .string v, .bool d, .int .i64 q]] w fun r w' => r = .returned (.bool (rightB ⟨k, v, d, q⟩)) ∧ Below w.heap.size w w' := by
  obtain ⟨r, HR⟩ : ∃ r, Hid (rightB ⟨k, v, d, q⟩ = r) := ⟨_, rfl⟩
  rw [HR.out]
  by_cases a1 : 1 ≤ k.size
  · have b1 : (1 : Int) ≤ (k.size : Int) := by omega
    by_cases a2 : k.size ≤ 128
    · have b2 : (k.size : Int) ≤ 128 := by omega
      by_cases a3 : v.size ≤ 1024
      · have b3 : (v.size : Int) ≤ 1024 := by omega
        by_cases a4 : d = true → v.size = 0
        · have hd : d = false ∨ (d = true ∧ v = ByteArray.empty) := by
            cases d with
            | false => exact .inl rfl
            | true => exact .inr ⟨rfl, (size_zero v).1 (a4 rfl)⟩
          by_cases a5 : 1 ≤ q
          · by_cases a6 : q ≤ 1099511627776
            · have hr : r = true := by rw [← HR.out]; simp only [rightB, decide_eq_true_eq]; exact ⟨a1, a2, a3, a4, a5, a6⟩
              subst hr
              clear HR a4
              rcases hd with rfl | ⟨rfl, rfl⟩ <;> (go_enter Try.func22, Try.ntmps22; go_wp2; go_ret; exact ⟨rfl, bel_alloc _ _⟩)
            · have hr : r = false := by rw [← HR.out]; simp only [rightB, decide_eq_false_iff_not]; exact fun h => a6 h.2.2.2.2.2
              subst hr
              clear HR a4
              rcases hd with rfl | ⟨rfl, rfl⟩ <;> (go_enter Try.func22, Try.ntmps22; go_wp2; go_ret; exact ⟨rfl, bel_alloc _ _⟩)
          · have hr : r = false := by rw [← HR.out]; simp only [rightB, decide_eq_false_iff_not]; exact fun h => a5 h.2.2.2.2.1
            subst hr
            clear HR a4
            rcases hd with rfl | ⟨rfl, rfl⟩ <;> (go_enter Try.func22, Try.ntmps22; go_wp2; go_ret; exact ⟨rfl, bel_alloc _ _⟩)
        · have hr : r = false := by rw [← HR.out]; simp only [rightB, decide_eq_false_iff_not]; exact fun h => a4 h.2.2.2.1
          have hd : d = true := by cases d with | true => rfl | false => exact absurd (fun h => by cases h) a4
          subst hd
          have hve : (v.toList == []) = false := by
            have h0 : v.size ≠ 0 := fun h => a4 (fun _ => h)
            cases v with
            | mk data =>
              simp only [beq_eq_false_iff_ne, ne_eq]
              intro h
              apply h0
              have := congrArg List.length h
              simp [ByteArray.toList_eq] at this
              simpa [ByteArray.size] using this
          subst hr
          clear HR a4
          go_enter Try.func22, Try.ntmps22
          go_wp2
          go_ret
          exact ⟨rfl, bel_alloc _ _⟩
      · have b3 : ¬ ((v.size : Int) ≤ 1024) := by omega
        have hr : r = false := by rw [← HR.out]; simp only [rightB, decide_eq_false_iff_not]; exact fun h => a3 h.2.2.1
        subst hr
        clear HR
        go_enter Try.func22, Try.ntmps22
        go_wp2
        go_ret
        exact ⟨rfl, bel_alloc _ _⟩
    · have b2 : ¬ ((k.size : Int) ≤ 128) := by omega
      have hr : r = false := by rw [← HR.out]; simp only [rightB, decide_eq_false_iff_not]; exact fun h => a2 h.2.1
      subst hr
      clear HR
      go_enter Try.func22, Try.ntmps22
      go_wp2
      go_ret
      exact ⟨rfl, bel_alloc _ _⟩
  · have b1 : ¬ ((1 : Int) ≤ (k.size : Int)) := by omega
    have hr : r = false := by rw [← HR.out]; simp only [rightB, decide_eq_false_iff_not]; exact fun h => a1 h.1
    subst hr
    clear HR
    go_enter Try.func22, Try.ntmps22
    go_wp2
    go_ret
    exact ⟨rfl, bel_alloc _ _⟩
set_option maxRecDepth 100000 in
set_option maxHeartbeats 1000000 in
theorem refRight_any (k v : ByteArray) (d : Bool) (q : Int) (w : World) (hk : k.size ≤ 9223372036854775807) (hv : v.size ≤ 9223372036854775807) :
    Calls Try.prog 23 #[.agg #[.string k, .string v, .bool d, .int .i64 q]] w fun r w' => r = .returned (.bool (rightB ⟨k, v, d, q⟩)) ∧ Below w.heap.size w w' := by
  obtain ⟨r, HR⟩ : ∃ r, Hid (rightB ⟨k, v, d, q⟩ = r) := ⟨_, rfl⟩
  rw [HR.out]
  by_cases a1 : 1 ≤ k.size
  · have b1 : (1 : Int) ≤ (k.size : Int) := by omega
    by_cases a2 : k.size ≤ 128
    · have b2 : (k.size : Int) ≤ 128 := by omega
      by_cases a3 : v.size ≤ 1024
      · have b3 : (v.size : Int) ≤ 1024 := by omega
        by_cases a4 : d = true → v.size = 0
        · have hd : d = false ∨ (d = true ∧ v = ByteArray.empty) := by
            cases d with
            | false => exact .inl rfl
            | true => exact .inr ⟨rfl, (size_zero v).1 (a4 rfl)⟩
          by_cases a5 : 1 ≤ q
          · by_cases a6 : q ≤ 1099511627776
            · have hr : r = true := by rw [← HR.out]; simp only [rightB, decide_eq_true_eq]; exact ⟨a1, a2, a3, a4, a5, a6⟩
              subst hr
              clear HR a4
              rcases hd with rfl | ⟨rfl, rfl⟩ <;> (go_enter Try.func23, Try.ntmps23; go_wp2; go_ret; exact ⟨rfl, bel_alloc _ _⟩)
            · have hr : r = false := by rw [← HR.out]; simp only [rightB, decide_eq_false_iff_not]; exact fun h => a6 h.2.2.2.2.2
              subst hr
              clear HR a4
              rcases hd with rfl | ⟨rfl, rfl⟩ <;> (go_enter Try.func23, Try.ntmps23; go_wp2; go_ret; exact ⟨rfl, bel_alloc _ _⟩)
          · have hr : r = false := by rw [← HR.out]; simp only [rightB, decide_eq_false_iff_not]; exact fun h => a5 h.2.2.2.2.1
            subst hr
            clear HR a4
            rcases hd with rfl | ⟨rfl, rfl⟩ <;> (go_enter Try.func23, Try.ntmps23; go_wp2; go_ret; exact ⟨rfl, bel_alloc _ _⟩)
        · have hr : r = false := by rw [← HR.out]; simp only [rightB, decide_eq_false_iff_not]; exact fun h => a4 h.2.2.2.1
          have hd : d = true := by cases d with | true => rfl | false => exact absurd (fun h => by cases h) a4
          subst hd
          have hve : (v.toList == []) = false := by
            have h0 : v.size ≠ 0 := fun h => a4 (fun _ => h)
            cases v with
            | mk data =>
              simp only [beq_eq_false_iff_ne, ne_eq]
              intro h
              apply h0
              have := congrArg List.length h
              simp [ByteArray.toList_eq] at this
              simpa [ByteArray.size] using this
          subst hr
          clear HR a4
          go_enter Try.func23, Try.ntmps23
          go_wp2
          go_ret
          exact ⟨rfl, bel_alloc _ _⟩
      · have b3 : ¬ ((v.size : Int) ≤ 1024) := by omega
        have hr : r = false := by rw [← HR.out]; simp only [rightB, decide_eq_false_iff_not]; exact fun h => a3 h.2.2.1
        subst hr
        clear HR
        go_enter Try.func23, Try.ntmps23
        go_wp2
        go_ret
        exact ⟨rfl, bel_alloc _ _⟩
    · have b2 : ¬ ((k.size : Int) ≤ 128) := by omega
      have hr : r = false := by rw [← HR.out]; simp only [rightB, decide_eq_false_iff_not]; exact fun h => a2 h.2.1
      subst hr
      clear HR
      go_enter Try.func23, Try.ntmps23
      go_wp2
      go_ret
      exact ⟨rfl, bel_alloc _ _⟩
  · have b1 : ¬ ((1 : Int) ≤ (k.size : Int)) := by omega
    have hr : r = false := by rw [← HR.out]; simp only [rightB, decide_eq_false_iff_not]; exact fun h => a1 h.1
    subst hr
    clear HR
    go_enter Try.func23, Try.ntmps23
    go_wp2
    go_ret
    exact ⟨rfl, bel_alloc _ _⟩
/-- Two strings, byte by byte. -/
def cmpS (a b : ByteArray) : Int := Lib.compareBytes a.data.toList b.data.toList
def cmpI (x y : Int) : Int := if x < y then -1 else if y < x then 1 else 0
def cmpE (a b : E) : Int := if cmpS a.key b.key ≠ 0 then cmpS a.key b.key else cmpI a.seq b.seq
theorem cmpString_any (a b : ByteArray) (w : World) : Calls Try.prog 83 #[.string a, .string b] w fun e w' => e = .returned (.int .i64 (cmpS a b)) ∧ w' = w := by
  go_enter Try.func83, Try.ntmps83
  go_wp2
  rw [run_callFunc_extern Try.func90 (by kernel_rfl) (by kernel_rfl) (by kernel_rfl) (e := Extern.BytealgCompare.compare) (by kernel_rfl), Lib.run_compareString]
  simp only [Result.andThen]
  rw [Oper.upon_value]
  go_wp2
  go_ret
  exact ⟨rfl, rfl⟩
theorem compareS_any (a b : ByteArray) (w : World) : Calls Try.prog 73 #[.string a, .string b] w fun e w' => e = .returned (.int .i64 (cmpS a b)) ∧ w' = w := by
  go_enter Try.func73, Try.ntmps73
  go_wp2_with fail
  refine (cmpString_any a b _).mono ?_
  rintro e w' ⟨rfl, hw⟩
  subst hw
  go_wp2
  go_ret
  exact ⟨rfl, rfl⟩
set_option maxHeartbeats 1000000 in
theorem compareI_any (x y : Int) (w : World) : Calls Try.prog 74 #[.int .i64 x, .int .i64 y] w fun e w' => e = .returned (.int .i64 (cmpI x y)) ∧ w' = w := by
  by_cases h1 : x < y
  · have HC : Hid (cmpI x y = -1) := by show _ = _; rw [cmpI, if_pos h1]
    rw [HC.out]
    go_enter Try.func74, Try.ntmps74
    go_wp2
    go_ret
    exact ⟨rfl, rfl⟩
  · by_cases h2 : y < x
    · have HC : Hid (cmpI x y = 1) := by show _ = _; rw [cmpI, if_neg h1, if_pos h2]
      rw [HC.out]
      go_enter Try.func74, Try.ntmps74
      go_wp2
      go_ret
      exact ⟨rfl, rfl⟩
    · have HC : Hid (cmpI x y = 0) := by show _ = _; rw [cmpI, if_neg h1, if_neg h2]
      rw [HC.out]
      go_enter Try.func74, Try.ntmps74
      go_wp2
      go_ret
      exact ⟨rfl, rfl⟩
set_option maxHeartbeats 1000000 in
theorem or_any (g : Nat) (u v : Int) (w : World) (h0 : w.cell? ⟨g, 0, none⟩ = some (.int .i64 u)) (h1 : w.cell? ⟨g, 1, none⟩ = some (.int .i64 v)) :
    Calls Try.prog 72 #[.slice (some ⟨g, 0, none⟩) 2 2] w fun e w' => e = .returned (.int .i64 (if u ≠ 0 then u else v)) ∧ w' = w := by
  by_cases hu : u = 0
  · subst hu
    rw [if_neg (by simp)]
    by_cases hv : v = 0
    · subst hv
      go_enter Try.func72, Try.ntmps72
      go_wp2
      refine wp_loop_rounds 3 ?_
      rw [rounds_succ]
      go_wp2
      rw [rounds_succ]
      go_wp2
      rw [rounds_succ]
      go_wp2
      go_ret
      exact ⟨rfl, rfl⟩
    · have hv' : (v == 0) = false := by simpa using hv
      have hv2 : (v != 0) = true := by simpa using hv
      go_enter Try.func72, Try.ntmps72
      go_wp2
      refine wp_loop_rounds 2 ?_
      rw [rounds_succ]
      go_wp2
      rw [rounds_succ]
      go_wp2
      go_ret
      exact ⟨rfl, rfl⟩
  · rw [if_pos hu]
    have hu' : (u == 0) = false := by simpa using hu
    have hu2 : (u != 0) = true := by simpa using hu
    go_enter Try.func72, Try.ntmps72
    go_wp2
    refine wp_loop_rounds 1 ?_
    rw [rounds_succ]
    go_wp2
    go_ret
    exact ⟨rfl, rfl⟩
end Go.Proofs.Yteemfhhhdhddhaa
