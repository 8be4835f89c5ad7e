/-
  A row's head, what is left behind it, and which of two rows is ahead: contracts over this translation.
-/
import Derived.Test.YteggjenncmjfmaaMgA
namespace Go.Proofs.Yteggjenncmjfmaa
open Go.RowKit
set_option linter.unusedSectionVars false
variable [Inhabited E] [DecidableEq E] [Inhabited RV]
theorem size29 : (Try.prog.info? 29).map (·.size) = some 4 := by kernel_rfl
theorem size49 : (Try.prog.info? 49).map (·.size) = some 2 := by kernel_rfl
theorem row_cells {w : World} {r : RV} {e : E} {t : List E} (h : RIn w r) (hl : r.l = e :: t) : ∃ b off, r.ao = some ⟨b, off, none⟩ ∧ 0 < r.n ∧ w.cell? ⟨b, off, none⟩ = some (.string e.key) ∧ w.cell? ⟨b, off + 1, none⟩ = some (.string e.value) ∧ w.cell? ⟨b, off + 2, none⟩ = some (.bool e.del) ∧ w.cell? ⟨b, off + 3, none⟩ = some (.int .i64 e.seq) := by
  obtain ⟨⟨h1, h2⟩, -, -, -⟩ := h
  have hn : 0 < r.n := by rw [← h1, hl]; simp
  obtain ⟨b, off, h3, h4⟩ := h2 hn
  have h5 : (r.l)[0]! = E.mk e.key e.value e.del e.seq := by rw [hl]; rfl
  obtain ⟨c0, c1, c2, c3⟩ := ents_four h4 0 (by rw [hl]; simp) h5
  refine ⟨b, off, h3, hn, ?_, ?_, ?_, ?_⟩
  · simpa using c0
  · simpa using c1
  · simpa using c2
  · simpa using c3
set_option maxRecDepth 100000 in
set_option maxHeartbeats 1000000 in
theorem head_any (r : RV) (k v : ByteArray) (d : Bool) (q : Int) (t : List E) (w : World) (h : RIn w r) (hl : r.l = ⟨k, v, d, q⟩ :: t) :
    Calls Try.prog 28 #[.agg #[.int .i64 (r.age : Int), .slice r.ao r.n r.c]] w fun e w' => e = .returned (.agg #[.string k, .string v, .bool d, .int .i64 q]) ∧ Below w.heap.size w w' := by
  obtain ⟨b, off, h1, hn, c0, c1, c2, c3⟩ := row_cells h hl
  have hbl : b < w.heap.size := World.block_lt_of_cell? w _ c0
  obtain ⟨age, ao, n, c, l⟩ := r
  simp only at h1 hn
  subst h1
  have hz : (0 : Int) < (n : Int) := by omega
  have HB : Hid (Below w.heap.size w (w.alloc (.cells #[.int .i64 (age : Int), .slice (some ⟨b, off, none⟩) n c] 49))) := bel_alloc _ _
  clear h hl hn
  go_enter Try.func28, Try.ntmps28
  go_wp2
  (try simp only [Exit.inBlock, Exit.then])
  refine bodyPost_ret (results_entry1 rfl _ _ (w.heap.size + 1) 29 _ _ rfl (by rw [heap_alloc_get, if_pos (by simp)]) (by exact size29)) rfl ?_
  exact ⟨rfl, HB.out.trans ((bel_alloc _ _).mono HB.out.size)⟩
theorem field29_0 (k v : ByteArray) (d : Bool) (q : Int) (w : World) : (Instr.field 29 (.agg #[.string k, .string v, .bool d, .int .i64 q]) 0).run Try.prog w = .ok (.string k) w := by kernel_rfl
theorem results_row1 {fn : Func} {p : Tmp} (h : fn.results = #[.cell p 49]) (tmps : Array Value) (w : World) (g : Nat) (t : TypeId) (cs : Array Value) (fr : Nat × Nat)
    (hp : tmps.getD p undef = .pointer (some ⟨g, 0, none⟩)) (hg : w.heap[g]? = some (.cells cs t fr)) (hi : (Try.prog.info? 49).map (·.size) = some cs.size) :
    (results fn tmps).run Try.prog w = .ok (.agg cs) w := by
  have hp' : tmps[p]?.getD undef = .pointer (some ⟨g, 0, none⟩) := by simpa using hp
  simp [results, h, hp', asAddr, run_loadVar_row w g t 49 cs fr _ hg Try.underlying49 rfl hi]
set_option maxRecDepth 100000 in
set_option maxHeartbeats 1000000 in
theorem pass_any (r : RV) (w : World) (h : RIn w r) (h0 : r.l ≠ []) :
    Calls Try.prog 30 #[.agg #[.int .i64 (r.age : Int), .slice r.ao r.n r.c]] w fun e w' => e = .returned (.agg (encR (passR r)).toArray) ∧ Below w.heap.size w w' := by
  have hn : 1 ≤ r.n := by rw [← h.1.1]; cases hl : r.l with | nil => exact absurd hl h0 | cons e t => simp
  have hnc := h.2.1
  have hc := h.2.2.1
  obtain ⟨W, HR⟩ : ∃ W, Hid ((encR (passR r)).toArray = W) := ⟨_, rfl⟩
  rw [HR.out]
  obtain ⟨age, ao, n, c, l⟩ := r
  simp only at hn hnc hc
  have h1n : (1 : Int) ≤ (n : Int) := by omega
  have h1c : (1 : Int) ≤ (c : Int) := by omega
  by_cases hc1 : c = 1
  · subst hc1
    obtain rfl : n = 1 := by omega
    have HW : Hid (W = #[.int .i64 (age : Int), .slice ao 0 0]) := by show _ = _; rw [← HR.out]; rfl
    clear h h0 HR
    go_enter Try.func30, Try.ntmps30
    go_wp2_with fail
    go_region
    all_goals go_wp2
    all_goals (try simp only [Exit.inBlock, Exit.then])
    all_goals
      refine bodyPost_ret (results_row1 rfl _ _ (w.heap.size + 1) 49 _ _ rfl (by rw [heap_drew, heap_alloc_get, if_pos (by simp)]) (by exact size49)) rfl ?_
      exact ⟨by rw [HW.out], (((bel_alloc _ _).trans ((bel_alloc _ _).mono (by simp))).drew)⟩
  · have HW : Hid (W = #[.int .i64 (age : Int), .slice (Option.map (fun x => x.add (1 * 4)) ao) (n - 1) (c - 1)]) := by show _ = _; rw [← HR.out]; simp only [encR, passR]; rw [if_neg hc1]
    have hcz : ¬ ((1 : Int) = (c : Int)) := by omega
    clear h h0 HR
    go_enter Try.func30, Try.ntmps30
    go_wp2_with fail
    go_region
    all_goals go_wp2
    all_goals (try simp only [Exit.inBlock, Exit.then])
    all_goals
      refine bodyPost_ret (results_row1 rfl _ _ (w.heap.size + 1) 49 _ _ rfl (by rw [heap_drew, heap_alloc_get, if_pos (by simp)]) (by exact size49)) rfl ?_
      exact ⟨by rw [HW.out]; rfl, (((bel_alloc _ _).trans ((bel_alloc _ _).mono (by simp))).drew)⟩
set_option maxRecDepth 100000 in
set_option maxHeartbeats 1000000 in
theorem ahead_any (x y : RV) (ex ey : E) (tx ty : List E) (w : World) (hx : RIn w x) (hy : RIn w y) (hlx : x.l = ex :: tx) (hly : y.l = ey :: ty) :
    Calls Try.prog 26 #[.agg #[.int .i64 (x.age : Int), .slice x.ao x.n x.c], .agg #[.int .i64 (y.age : Int), .slice y.ao y.n y.c]] w fun e w' => e = .returned (.bool (decide (cmpR x y < 0))) ∧ Below w.heap.size w w' := by
  obtain ⟨k1, v1, d1, q1⟩ := ex
  obtain ⟨k2, v2, d2, q2⟩ := ey
  obtain ⟨c, HC⟩ : ∃ c, Hid (c = cmpS k1 k2) := ⟨_, rfl⟩
  obtain ⟨i, HI⟩ : ∃ i, Hid (i = cmpI (x.age : Int) (y.age : Int)) := ⟨_, rfl⟩
  have HE : Hid (cmpR x y = if c ≠ 0 then c else i) := by show _ = _; rw [HC.out, HI.out]; unfold cmpR cmpP; rw [hlx, hly]; rfl
  obtain ⟨r, HR⟩ : ∃ r, Hid ((if c ≠ 0 then c else i) = r) := ⟨_, rfl⟩
  have HD : Hid (decide (cmpR x y < 0) = decide (r < 0)) := by show _ = _; rw [HE.out, HR.out]
  rw [HD.out]
  have HO : Hid (∀ g w, w.cell? ⟨g, 0, none⟩ = some (.int .i64 c) → w.cell? ⟨g, 1, none⟩ = some (.int .i64 i) → Calls Try.prog 31 #[.slice (some ⟨g, 0, none⟩) 2 2] w fun e w' => e = .returned (.int .i64 r) ∧ w' = w) := by
    show ∀ g w, _ → _ → _
    intro g w h0 h1; rw [← HR.out]; exact or_any g c i w h0 h1
  have C1 := fun w => compareS_any k1 k2 w
  have C2 := fun w => compareI_any (x.age : Int) (y.age : Int) w
  rw [← HC.out] at C1
  rw [← HI.out] at C2
  have HC1 : Hid (_) := C1
  have HC2 : Hid (_) := C2
  have HX : Hid (∀ W, Below w.heap.size w W → Calls Try.prog 28 #[.agg #[.int .i64 (x.age : Int), .slice x.ao x.n x.c]] W fun e w' => e = .returned (.agg #[.string k1, .string v1, .bool d1, .int .i64 q1]) ∧ Below W.heap.size W w') := fun W hW => head_any x k1 v1 d1 q1 tx W (hx.below hW (Nat.le_refl _)) hlx
  have HY : Hid (∀ W, Below w.heap.size w W → Calls Try.prog 28 #[.agg #[.int .i64 (y.age : Int), .slice y.ao y.n y.c]] W fun e w' => e = .returned (.agg #[.string k2, .string v2, .bool d2, .int .i64 q2]) ∧ Below W.heap.size W w') := fun W hW => head_any y k2 v2 d2 q2 ty W (hy.below hW (Nat.le_refl _)) hly
  clear C1 C2 hx hy hlx hly HE HD
  obtain ⟨a1, o1, n1, c1, l1⟩ := x
  obtain ⟨a2, o2, n2, c2, l2⟩ := y
  simp only at HX HY HC2 HI
  obtain ⟨W0, HW0⟩ : ∃ W, Hid ((w.alloc (.cells #[.int .i64 (a1 : Int), .slice o1 n1 c1] 49)).alloc (.cells #[.int .i64 (a2 : Int), .slice o2 n2 c2] 49) = W) := ⟨_, rfl⟩
  have HB0 : Hid (Below w.heap.size w W0) := by rw [← HW0.out]; exact (bel_alloc _ _).trans ((bel_alloc _ _).mono (by simp))
  have hsz : W0.heap.size = w.heap.size + 2 := by rw [← HW0.out]; simp
  have r1 : W0.heap[w.heap.size]? = some (.cells #[.int .i64 (a1 : Int), .slice o1 n1 c1] 49 (0, 0)) := by rw [← HW0.out, heap_alloc_get, if_neg (by simp), heap_alloc_get, if_pos rfl]
  have r2 : W0.heap[w.heap.size + 1]? = some (.cells #[.int .i64 (a2 : Int), .slice o2 n2 c2] 49 (0, 0)) := by rw [← HW0.out, heap_alloc_get, if_pos (by simp)]
  have HS : Hid (∀ W, Below W0.heap.size W0 W → W.cell? ⟨w.heap.size, 0, none⟩ = some (.int .i64 (a1 : Int)) ∧ W.cell? ⟨w.heap.size, 1, none⟩ = some (.slice o1 n1 c1) ∧ W.cell? ⟨w.heap.size + 1, 0, none⟩ = some (.int .i64 (a2 : Int)) ∧ W.cell? ⟨w.heap.size + 1, 1, none⟩ = some (.slice o2 n2 c2)) := fun W hW => by
    have q1 := (hW.block w.heap.size (by omega)).trans r1
    have q2 := (hW.block (w.heap.size + 1) (by omega)).trans r2
    exact ⟨by rw [cell_of_row _ _ _ _ _ _ q1]; rfl, by rw [cell_of_row _ _ _ _ _ _ q1]; rfl, by rw [cell_of_row _ _ _ _ _ _ q2]; rfl, by rw [cell_of_row _ _ _ _ _ _ q2]; rfl⟩
  clear hsz r1 r2
  go_enter Try.func26, Try.ntmps26
  go_upto_region 1 with fail
  rw [HW0.out]
  have hS0 := HS.out W0 (Below.refl _ _)
  have f1 := field29_0 k1 v1 d1 q1
  have f2 := field29_0 k2 v2 d2 q2
  go_region_held3 (fun W => W.cell? ⟨w.heap.size, 0, none⟩ = some (.int .i64 (a1 : Int)) ∧ W.cell? ⟨w.heap.size, 1, none⟩ = some (.slice o1 n1 c1) ∧ W.cell? ⟨w.heap.size + 1, 0, none⟩ = some (.int .i64 (a2 : Int)) ∧ W.cell? ⟨w.heap.size + 1, 1, none⟩ = some (.slice o2 n2 c2)) (first | assumption | go_keep) (first | (go_at_call_of 28 (Value.agg #[.int .i64 (a1 : Int), .slice o1 n1 c1]); refine (HX.out _ (HB0.out.drew)).mono ?_; rintro e w1 ⟨rfl, hb1⟩; have hB1 := (Below.drew (Below.refl W0.heap.size W0)).trans hb1; have hS1 := HS.out w1 hB1) | (go_at_call_of 28 (Value.agg #[.int .i64 (a2 : Int), .slice o2 n2 c2]); refine (HY.out _ (HB0.out.trans (hB1.mono HB0.out.size))).mono ?_; rintro e w2 ⟨rfl, hb2⟩; have hB2 := hB1.trans (hb2.mono hB1.size); have hS2 := HS.out w2 hB2) | (go_at_call 32; refine (HC1.out _).mono ?_; rintro e w' ⟨rfl, rfl⟩) | (go_at_call 33; refine (HC2.out _).mono ?_; rintro e w' ⟨rfl, rfl⟩) | (go_at_call 31; refine (HO.out _ _ (by first | exact (pair_cell _ _ _ _ _ (by simp)).1 | exact (by rw [cell_of_row _ _ _ _ _ _ (World.alloc_heap_new _ _)]; rfl)) (by first | exact (pair_cell _ _ _ _ _ (by simp)).2 | exact (by rw [cell_of_row _ _ _ _ _ _ (World.alloc_heap_new _ _)]; rfl))).mono ?_; rintro e w' ⟨rfl, rfl⟩))
  go_wp2
  go_ret
  exact ⟨rfl, (HB0.out.trans (hB2.mono HB0.out.size)).alloc (HB0.out.trans (hB2.mono HB0.out.size)).size _⟩
end Go.Proofs.Yteggjenncmjfmaa
