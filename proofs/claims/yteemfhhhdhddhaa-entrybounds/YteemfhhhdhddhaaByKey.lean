/-
  What entry.byKeyAndSeq answers, and the comparison's laws: a contract over this translation.
-/
import Derived.Test.YteemfhhhdhddhaaCmp
namespace Go.Proofs.Yteemfhhhdhddhaa
open Go.RowKit Go.Sort
theorem heap_alloc_get (w : World) (o : Obj) (i : Nat) : (w.alloc o).heap[i]? = if i = w.heap.size then some o else w.heap[i]? := by
  show (w.heap.push o)[i]? = _
  rw [Array.getElem?_push]
theorem pair_cell (u v : Value) (t : TypeId) (W : World) (g : Nat) (hg : g = W.heap.size) :
    (W.alloc (Obj.cells #[u, v] t)).drew.cell? ⟨g, 0, none⟩ = some u ∧ (W.alloc (Obj.cells #[u, v] t)).drew.cell? ⟨g, 1, none⟩ = some v := by
  have h : (W.alloc (Obj.cells #[u, v] t)).drew.heap[g]? = some (.cells #[u, v] t) := by
    show (W.alloc _).heap[g]? = _
    rw [heap_alloc_get, if_pos hg]
  exact ⟨by rw [cell_of_row _ _ _ _ _ _ h]; rfl, by rw [cell_of_row _ _ _ _ _ _ h]; rfl⟩
set_option maxRecDepth 100000 in
set_option maxHeartbeats 1000000 in
/-- byKeyAndSeq: two blocks and one more are laid, and it may draw. -/
theorem byKey_any (a b : E) (w : World) : Calls Try.prog 54 #[.agg (encE a).toArray, .agg (encE b).toArray] w fun e w' => e = .returned (.int .i64 (cmpE a b)) ∧ ∃ q os', w' = grow (w.drewN q) os' := by
  obtain ⟨k1, v1, d1, q1⟩ := a
  obtain ⟨k2, v2, d2, q2⟩ := b
  obtain ⟨c, HC⟩ : ∃ c, Hid (c = cmpS k1 k2) := ⟨_, rfl⟩
  obtain ⟨i, HI⟩ : ∃ i, Hid (i = cmpI q1 q2) := ⟨_, rfl⟩
  have HE : Hid (cmpE ⟨k1, v1, d1, q1⟩ ⟨k2, v2, d2, q2⟩ = if c ≠ 0 then c else i) := by show _ = _; rw [cmpE, HC.out, HI.out]
  rw [HE.out]
  obtain ⟨r, HR⟩ : ∃ r, Hid ((if c ≠ 0 then c else i) = r) := ⟨_, rfl⟩
  rw [HR.out]
  have HO : Hid (∀ g w, w.cell? ⟨g, 0, none⟩ = some (.int .i64 c) → w.cell? ⟨g, 1, none⟩ = some (.int .i64 i) → Calls Try.prog 72 #[.slice (some ⟨g, 0, none⟩) 2 2] w fun e w' => e = .returned (.int .i64 r) ∧ w' = w) := by
    show ∀ g w, _ → _ → _
    intro g w h0 h1; rw [← HR.out]; exact or_any g c i w h0 h1
  have C1 := fun w => compareS_any k1 k2 w
  have C2 := fun w => compareI_any q1 q2 w
  rw [← HC.out] at C1
  rw [← HI.out] at C2
  have HC1 : Hid (_) := C1
  have HC2 : Hid (_) := C2
  clear C1 C2
  simp only [encE]
  go_enter Try.func54, Try.ntmps54
  go_wp2_with fail
  go_region_held3 (fun w' => w'.cell? ⟨w.heap.size, 0, none⟩ = some (.string k1) ∧ w'.cell? ⟨w.heap.size + 1, 0, none⟩ = some (.string k2) ∧ w'.cell? ⟨w.heap.size, 3, none⟩ = some (.int .i64 q1) ∧ w'.cell? ⟨w.heap.size + 1, 3, none⟩ = some (.int .i64 q2)) (first | assumption | go_keep) (first | (go_at_call 73; refine (HC1.out _).mono ?_; rintro e w' ⟨rfl, rfl⟩) | (go_at_call 74; refine (HC2.out _).mono ?_; rintro e w' ⟨rfl, rfl⟩) | (go_at_call 72; refine (HO.out _ _ (pair_cell _ _ _ _ _ (by simp)).1 (pair_cell _ _ _ _ _ (by simp)).2).mono ?_; rintro e w' ⟨rfl, rfl⟩))
  all_goals go_wp2
  all_goals go_ret
  all_goals exact ⟨rfl, 1, _, by rw [alloc_eq_grow, alloc_eq_grow, alloc_eq_grow, grow_grow, grow_grow]; rfl⟩
variable [Inhabited E]
theorem byKeyLays (blk off size : Nat) (w : World) : CmpLays Try.prog 54 #[] encE 4 cmpE blk off size w :=
  fun _ _ _ _ x y => byKey_any x y _
end Go.Proofs.Yteemfhhhdhddhaa
