/-
  What tree.span's halves and of answer: contracts over this translation. What tree.Root of a tree answers: a contract over this translation.
-/
import Derived.Test.YtecacjddggljgaaDoorPartBI
namespace Go.Proofs.YtecacjddggljgaaDoor.Sm
open Go.RowKit
/-! ### spans -/
theorem shl_val {k p : Nat} (hp : (2 : Nat) ^ k = p) (hb : p ≤ 9223372036854775807) : wrap64 ((2 : Int) ^ k) = (p : Int) := by
  have h : ((2 : Int) ^ k) = ((2 ^ k : Nat) : Int) := by rw [Int.natCast_pow]; rfl
  rw [h, hp]
  unfold wrap64
  omega
theorem le_p {a b p : Nat} (h : p < b - a) (hb : b ≤ 9223372036854775807) : p ≤ 9223372036854775807 := by omega
theorem lt_sum {a b p : Nat} (h : p < b - a) : a + p < b := by omega
theorem le_u {a b : Nat} (h : b ≤ 9223372036854775807) : b - a - 1 ≤ 18446744073709551615 := by omega
def sv (a b : Nat) : Value := .agg #[.int .i64 (a : Int), .int .i64 (b : Int)]
theorem h1z {n : Nat} (h2 : 2 ≤ n) : ((n - 1 : Nat) : Int) = (n : Int) - 1 := by omega
theorem z1 {a b : Nat} (h : a + 2 ≤ b) (hb : b ≤ 9223372036854775807) : wrap64 ((b : Int) - (a : Int)) = ((b - a : Nat) : Int) ∧ wrap64 (((b - a : Nat) : Int) - 1) = ((b - a - 1 : Nat) : Int) ∧ IntKind.u64.wrap ((b - a - 1 : Nat) : Int) = ((b - a - 1 : Nat) : Int) := by
  unfold wrap64
  rw [IntKind.wrap_u64]
  omega
theorem z2 {k a p b : Nat} (hk : 1 ≤ k) (hk2 : k ≤ 63) (hp : a + p < b) (hb : b ≤ 9223372036854775807) : wrap64 ((k : Int) - 1) = ((k - 1 : Nat) : Int) ∧ wrap64 ((a : Int) + (p : Int)) = ((a + p : Nat) : Int) := by unfold wrap64; omega
theorem size78 : (Tryd.prog.info? 120).map (·.size) = some 2 := by kernel_rfl
theorem results_spans {fn : Func} {p q : Tmp} (h : fn.results = #[.cell p 120, .cell q 120]) (tmps : Array Value) (w : World) (g1 g2 : Nat) (t : TypeId) (c1 c2 : Array Value) (fr : Nat × Nat)
    (hp : tmps.getD p undef = .pointer (some ⟨g1, 0, none⟩)) (hq : tmps.getD q undef = .pointer (some ⟨g2, 0, none⟩)) (h1 : w.heap[g1]? = some (.cells c1 t fr)) (h2 : w.heap[g2]? = some (.cells c2 t fr)) (s1 : c1.size = 2) (s2 : c2.size = 2) :
    (results fn tmps).run Tryd.prog w = .ok (.tuple #[.agg c1, .agg c2]) w := by
  have hp' : tmps[p]?.getD undef = .pointer (some ⟨g1, 0, none⟩) := by simpa using hp
  have hq' : tmps[q]?.getD undef = .pointer (some ⟨g2, 0, none⟩) := by simpa using hq
  simp [results, h, hp', hq', asAddr, run_loadVar_row w g1 t 120 c1 fr _ h1 Tryd.underlying120 rfl (by rw [size78, s1]), run_loadVar_row w g2 t 120 c2 fr _ h2 Tryd.underlying120 rfl (by rw [size78, s2])]
theorem heap_set (w : World) (g j : Nat) (cs : Array Value) (t : TypeId) (v : Value) (hg : w.heap[g]? = some (.cells cs t (0, 0))) : (w.setCell ⟨g, j, none⟩ v).heap[g]? = some (.cells (cs.setIfInBounds j v) t (0, 0)) := by
  unfold World.setCell
  simp only [Array.getElem?_modify, if_pos, hg, Option.map_some]
  rfl
theorem two_spans (w : World) (g1 g2 : Nat) (x y z u p q r s : Value) (t : TypeId) (h1 : w.heap[g1]? = some (.cells #[p, q] t (0, 0))) (h2 : w.heap[g2]? = some (.cells #[r, s] t (0, 0))) (hne : g1 ≠ g2) :
    ((((w.setCell ⟨g1, 0, none⟩ x).setCell ⟨g1, 1, none⟩ y).setCell ⟨g2, 0, none⟩ z).setCell ⟨g2, 1, none⟩ u).heap[g1]? = some (.cells #[x, y] t (0, 0)) ∧ ((((w.setCell ⟨g1, 0, none⟩ x).setCell ⟨g1, 1, none⟩ y).setCell ⟨g2, 0, none⟩ z).setCell ⟨g2, 1, none⟩ u).heap[g2]? = some (.cells #[z, u] t (0, 0)) := by
  constructor
  · rw [Below.heap_setCell _ ⟨g2, 1, none⟩ _ _ hne, Below.heap_setCell _ ⟨g2, 0, none⟩ _ _ hne]
    exact heap_set _ _ _ _ _ _ (heap_set _ _ _ _ _ _ h1)
  · have h3 : ((w.setCell ⟨g1, 0, none⟩ x).setCell ⟨g1, 1, none⟩ y).heap[g2]? = some (.cells #[r, s] t (0, 0)) := by
      rw [Below.heap_setCell _ ⟨g1, 1, none⟩ _ _ (Ne.symm hne), Below.heap_setCell _ ⟨g1, 0, none⟩ _ _ (Ne.symm hne)]
      exact h2
    exact heap_set _ g2 1 #[z, s] t u (heap_set _ g2 0 #[r, s] t z h3)
theorem heap_drewN (w : World) (q : Nat) : (w.drewN q).heap = w.heap := by
  induction q with
  | zero => rfl
  | succ q ih => exact ih
theorem frame3 (w : World) (o1 o2 o3 : Obj) : (((w.alloc o1).alloc o2).alloc o3).heap[w.heap.size + 1]? = some o2 ∧ (((w.alloc o1).alloc o2).alloc o3).heap[w.heap.size + 1 + 1]? = some o3 ∧ Below w.heap.size w (((w.alloc o1).alloc o2).alloc o3) := by
  refine ⟨?_, ?_, ((bel_alloc w _).trans ((bel_alloc _ _).mono (by simp))).trans ((bel_alloc _ _).mono (by simp; omega))⟩
  · rw [Below.heap_alloc _ _ _ (by simp)]
    have := heap_alloc_new (w.alloc o1) o2
    simpa using this
  · have := heap_alloc_new ((w.alloc o1).alloc o2) o3
    simpa using this
set_option maxHeartbeats 2000000 in
set_option maxRecDepth 100000 in
theorem halves_any (a b : Nat) (w : World) (h : a + 2 ≤ b) (hb : b ≤ 9223372036854775807) :
    Calls Tryd.prog 86 #[sv a b] w fun e w' => e = .returned (.tuple #[sv a (a + halfN (b - a)), sv (a + halfN (b - a)) b]) ∧ Below w.heap.size w w' := by
  obtain ⟨s1, s2, s3, s4, s5⟩ := halfN_spec (b - a) (by omega) (by omega)
  obtain ⟨p, HP⟩ : ∃ p, Hid (halfN (b - a) = p) := ⟨_, rfl⟩
  obtain ⟨k, HKK⟩ : ∃ k, Hid (Lib.bitLen (b - a - 1) = k) := ⟨_, rfl⟩
  have HPK : Hid ((2 : Nat) ^ (k - 1) = p) := by show _ = _; rw [← HKK.out, ← HP.out, halfN]
  rw [HKK.out] at s4 s5
  rw [HP.out] at s2 ⊢
  obtain ⟨y1, y2, y3⟩ := z1 h hb
  obtain ⟨y4, y5⟩ := z2 (a := a) (p := p) (b := b) s5 s4 (lt_sum s2) hb
  have hsh := shl_val HPK.out (le_p s2 hb)
  have CL := fun W => len_any (b - a - 1) W (le_u hb)
  rw [HKK.out] at CL
  have HCL : Hid _ := CL
  unfold sv
  clear CL s1 s2 s3 h hb
  go_enter Tryd.func86, Tryd.ntmps86
  go_wp2_with fail
  go_quiet ((go_at_call 117; exact Calls.quiet_of_same (HCL.out _)))
  go_wp2_with fail
  have HFR : Hid _ := frame3 w (Obj.cells #[Value.int IntKind.i64 (a : Int), Value.int IntKind.i64 (b : Int)] 120) (Obj.cells #[Value.int IntKind.i64 0, Value.int IntKind.i64 0] 120) (Obj.cells #[Value.int IntKind.i64 0, Value.int IntKind.i64 0] 120)
  go_region
  go_wp2
  obtain ⟨t1, t2⟩ := two_spans ((((w.alloc (Obj.cells #[Value.int IntKind.i64 (a : Int), Value.int IntKind.i64 (b : Int)] 120)).alloc (Obj.cells #[Value.int IntKind.i64 0, Value.int IntKind.i64 0] 120)).alloc (Obj.cells #[Value.int IntKind.i64 0, Value.int IntKind.i64 0] 120)).drewN (nq + 1)) (w.heap.size + 1) (w.heap.size + 1 + 1) (.int .i64 (a : Int)) (.int .i64 ((a : Int) + (p : Int))) (.int .i64 ((a : Int) + (p : Int))) (.int .i64 (b : Int)) _ _ _ _ 120 (by rw [heap_drewN]; exact HFR.out.1) (by rw [heap_drewN]; exact HFR.out.2.1) (by omega)
  refine bodyPost_ret (results_spans rfl _ _ (w.heap.size + 1) (w.heap.size + 1 + 1) 120 _ _ (0, 0) rfl rfl t1 t2 rfl rfl) rfl ?_
  refine ⟨?_, (((((bel_drewN HFR.out.2.2 _).setCell (show w.heap.size ≤ w.heap.size + 1 by omega) _).setCell (show w.heap.size ≤ w.heap.size + 1 by omega) _).setCell (show w.heap.size ≤ w.heap.size + 1 + 1 by omega) _).setCell (show w.heap.size ≤ w.heap.size + 1 + 1 by omega) _)⟩
  rfl
/-- Some leaves of a row, as they lie in memory: their slices, and their bytes. -/
structure LV where
  ao : Option Addr
  n : Nat
  c : Nat
  bs : List UInt8
def LeavesAt (w : World) (b off : Nat) (ls : List LV) : Prop := ∀ i p, ls[i]? = some p → w.cell? ⟨b, off + i, none⟩ = some (.slice p.ao p.n p.c) ∧ Bytes w p.ao p.n p.bs ∧ p.n ≤ 140737488355000 ∧ (p.ao = none → p.c = 0)
theorem LeavesAt.below {w w' : World} {B b off : Nat} {ls : List LV} (h : LeavesAt w b off ls) (hb : Below B w w') (hB : w.heap.size ≤ B) : LeavesAt w' b off ls := fun i p hp => by
  obtain ⟨h1, h2, h3⟩ := h i p hp
  exact ⟨bel_cell2 hb hB h1, bytes_kept h2 hb hB, h3⟩
/-- A slice of leaves. -/
def LeavesV (w : World) (ao : Option Addr) (n c : Nat) (ls : List LV) : Prop := ls.length = n ∧ n ≤ c ∧ c ≤ 9223372036854775807 ∧ (0 < n → ∃ b off, ao = some ⟨b, off, none⟩ ∧ LeavesAt w b off ls)
theorem LeavesV.below {w w' : World} {B n c : Nat} {ao : Option Addr} {ls : List LV} (h : LeavesV w ao n c ls) (hb : Below B w w') (hB : w.heap.size ≤ B) : LeavesV w' ao n c ls :=
  ⟨h.1, h.2.1, h.2.2.1, fun hp => by obtain ⟨b, off, h1, h2⟩ := h.2.2.2 hp; exact ⟨b, off, h1, h2.below hb hB⟩⟩
def bytesL (ls : List LV) : List (List UInt8) := ls.map (·.bs)
theorem zi {a b : Nat} (h : a ≤ b) : (a : Int) ≤ (b : Int) := by omega
theorem zl {a b : Nat} (h : a < b) : (a : Int) < (b : Int) := by omega
set_option maxHeartbeats 1000000 in
set_option maxRecDepth 100000 in
theorem of_span (a m : Nat) (b off n c : Nat) (w : World) (h1 : a < m) (h2 : m ≤ n) (hnc : n ≤ c) :
    Calls Tryd.prog 75 #[sv a m, .slice (some ⟨b, off, none⟩) n c] w fun e w' => e = .returned (.slice (some ⟨b, off + a, none⟩) (m - a) (c - a)) ∧ Below w.heap.size w w' := by
  have y1 := zi (Nat.le_of_lt h1)
  have y2 := zi (Nat.le_trans h2 hnc)
  have y3 := zl (Nat.lt_of_lt_of_le h1 (Nat.le_trans h2 hnc))
  unfold sv
  clear h1 h2 hnc
  go_enter Tryd.func75, Tryd.ntmps75
  go_wp2
  go_ret
  exact ⟨rfl, bel_alloc _ _⟩
/-! ### roots -/
/-- The root of leaves (fuel: their number). -/
def rootF (z : Int) : Nat → List (List UInt8) → List UInt8
  | 0, _ => keptZ z []
  | f + 1, ls =>
    match ls with
    | [] => keptZ z []
    | [x] => leafD z x
    | _ => nodeD z (rootF z f (ls.take (halfN ls.length))) (rootF z f (ls.drop (halfN ls.length)))
def rootD (z : Int) (ls : List (List UInt8)) : List UInt8 := rootF z ls.length ls
end Go.Proofs.YtecacjddggljgaaDoor.Sm
namespace Go.Proofs.YtecacjddggljgaaDoor.Sm
open Go.RowKit
theorem rootF_two (z : Int) (f : Nat) (x y : List UInt8) (r : List (List UInt8)) (k : Nat) (hk : halfN (x :: y :: r).length = k) : rootF z (f + 1) (x :: y :: r) = nodeD z (rootF z f ((x :: y :: r).take k)) (rootF z f ((x :: y :: r).drop k)) := by
  subst hk
  rw [rootF]
  · intro h; cases h
  · intro q h; cases h
theorem rootF_fuel (z : Int) : ∀ (f : Nat) (ls : List (List UInt8)), ls.length ≤ f → ls.length ≤ 1000 → rootF z f ls = rootD z ls := by
  intro f
  induction f using Nat.strongRecOn with
  | ind f ih =>
    intro ls hl hb
    unfold rootD
    match f, ls, hl with
    | 0, [], _ => rfl
    | f + 1, [], _ => rfl
    | f + 1, [x], _ => rfl
    | f + 1, x :: y :: r, hl =>
      have hs := halfN_spec (x :: y :: r).length (by simp) (by omega)
      have h1 : ((x :: y :: r).take (halfN (x :: y :: r).length)).length ≤ f := by rw [List.length_take]; omega
      have h2 : ((x :: y :: r).drop (halfN (x :: y :: r).length)).length ≤ f := by rw [List.length_drop]; omega
      have h3 : ((x :: y :: r).take (halfN (x :: y :: r).length)).length ≤ (y :: r).length := by rw [List.length_take]; simp only [List.length_cons] at *; omega
      have h4 : ((x :: y :: r).drop (halfN (x :: y :: r).length)).length ≤ (y :: r).length := by rw [List.length_drop]; simp only [List.length_cons] at *; omega
      have b1 : ((x :: y :: r).take (halfN (x :: y :: r).length)).length ≤ 1000 := by rw [List.length_take]; omega
      have b2 : ((x :: y :: r).drop (halfN (x :: y :: r).length)).length ≤ 1000 := by rw [List.length_drop]; omega
      rw [rootF_two z f x y r _ rfl, show (x :: y :: r).length = (y :: r).length + 1 from rfl, rootF_two z (y :: r).length x y r _ rfl, show (y :: r).length + 1 = (x :: y :: r).length from rfl]
      rw [ih f (by omega) _ h1 b1, ih f (by omega) _ h2 b2]
      by_cases hf : (y :: r).length < f + 1
      · rw [ih _ hf _ h3 b1, ih _ hf _ h4 b2]
      · simp only [List.length_cons] at hl hf; omega
theorem rootD_two (z : Int) (ls : List (List UInt8)) (h2 : 2 ≤ ls.length) (hb : ls.length ≤ 1000) : rootD z ls = nodeD z (rootD z (ls.take (halfN ls.length))) (rootD z (ls.drop (halfN ls.length))) := by
  have hs := halfN_spec ls.length h2 (by omega)
  match ls, h2 with
  | x :: y :: r, _ =>
    have e1 : rootD z (x :: y :: r) = rootF z ((y :: r).length + 1) (x :: y :: r) := rfl
    rw [e1, rootF_two z (y :: r).length x y r _ rfl]
    rw [rootF_fuel z _ _ (by rw [List.length_take]; simp only [List.length_cons] at *; omega) (by rw [List.length_take]; omega), rootF_fuel z _ _ (by rw [List.length_drop]; simp only [List.length_cons] at *; omega) (by rw [List.length_drop]; omega)]
theorem rootF_length (z : Int) (f : Nat) (ls : List (List UInt8)) : (rootF z f ls).length = 32 := by
  match f, ls with
  | 0, _ => exact keptZ_length _ _
  | f + 1, [] => exact keptZ_length _ _
  | f + 1, [x] => exact leafD_length _ _
  | f + 1, x :: y :: r => exact nodeD_length _ _ _
theorem rootD_length (z : Int) (ls : List (List UInt8)) : (rootD z ls).length = 32 := rootF_length _ _ _
theorem LeavesAt.take {w : World} {b off : Nat} {ls : List LV} (h : LeavesAt w b off ls) (k : Nat) : LeavesAt w b off (ls.take k) := fun i p hp => by
  by_cases hik : i < k
  · rw [List.getElem?_take_of_lt hik] at hp; exact h i p hp
  · rw [List.getElem?_take_eq_none (by omega)] at hp; cases hp
theorem LeavesAt.drop {w : World} {b off : Nat} {ls : List LV} (h : LeavesAt w b off ls) (k : Nat) : LeavesAt w b (off + k) (ls.drop k) := fun i p hp => by
  rw [List.getElem?_drop] at hp
  have := h (k + i) p hp
  rw [← Nat.add_assoc] at this
  exact this
theorem LeavesV.take {w : World} {b off n c : Nat} {ls : List LV} (h : LeavesV w (some ⟨b, off, none⟩) n c ls) (k : Nat) (hk : k ≤ n) : LeavesV w (some ⟨b, off, none⟩) k c (ls.take k) := by
  refine ⟨by rw [List.length_take, h.1]; omega, Nat.le_trans hk h.2.1, h.2.2.1, fun hp => ⟨b, off, rfl, ?_⟩⟩
  obtain ⟨b', off', h1, h2⟩ := h.2.2.2 (by omega)
  cases h1
  exact h2.take k
theorem LeavesV.drop {w : World} {b off n c : Nat} {ls : List LV} (h : LeavesV w (some ⟨b, off, none⟩) n c ls) (k : Nat) (hk : k < n) : LeavesV w (some ⟨b, off + k, none⟩) (n - k) (c - k) (ls.drop k) := by
  refine ⟨by rw [List.length_drop, h.1], by have := h.2.1; omega, by have := h.2.2.1; omega, fun hp => ⟨b, off + k, rfl, ?_⟩⟩
  obtain ⟨b', off', h1, h2⟩ := h.2.2.2 (by omega)
  cases h1
  exact h2.drop k
set_option maxRecDepth 100000 in
set_option maxHeartbeats 2000000 in
theorem root_zero (z : Int) (ao : Option Addr) (c : Nat) (w : World) (hK : WW w 1 ks) (hz0 : 1 < w.heap.size) (hz : -9223372036854775808 ≤ z ∧ z ≤ 9223372036854775807) :
    Calls Tryd.prog 63 #[.agg #[.int .i64 z], .slice ao 0 c] w fun e w' => e = .returned (dv (rootD z [])) ∧ Below w.heap.size w w' := by
  have hdl := rootD_length z []
  obtain ⟨d, HD⟩ : ∃ d, Hid (rootD z [] = d) := ⟨_, rfl⟩
  rw [HD.out] at hdl ⊢
  have HDL : Hid (d.length = 32) := hdl
  have HCK : Hid (∀ W, Below w.heap.size w W → Calls Tryd.prog 67 #[.slice none 0 0, .int .i64 z] W fun e w' => e = .returned (dv d) ∧ Below W.heap.size W w') := fun W hW => by
    have h1 := kept_cap none 0 0 [] z W (bytes_nil W) (Nat.le_refl _) (by omega) (by omega) (hK.below hW hz0) (Nat.lt_of_lt_of_le hz0 hW.size) hz.1 hz.2
    rw [show d = keptZ z [] from HD.out.symm]
    exact h1
  clear hdl hK
  go_enter Tryd.func63, Tryd.ntmps63
  go_upto_region 3 with fail
  obtain ⟨W0, HW0⟩ : ∃ W, Hid ((w.alloc (Obj.cells #[Value.int IntKind.i64 z] 26)).alloc (Obj.cells #[Value.int IntKind.u8 0, Value.int IntKind.u8 0, Value.int IntKind.u8 0, Value.int IntKind.u8 0, Value.int IntKind.u8 0, Value.int IntKind.u8 0, Value.int IntKind.u8 0, Value.int IntKind.u8 0, Value.int IntKind.u8 0, Value.int IntKind.u8 0, Value.int IntKind.u8 0, Value.int IntKind.u8 0, Value.int IntKind.u8 0, Value.int IntKind.u8 0, Value.int IntKind.u8 0, Value.int IntKind.u8 0, Value.int IntKind.u8 0, Value.int IntKind.u8 0, Value.int IntKind.u8 0, Value.int IntKind.u8 0, Value.int IntKind.u8 0, Value.int IntKind.u8 0, Value.int IntKind.u8 0, Value.int IntKind.u8 0, Value.int IntKind.u8 0, Value.int IntKind.u8 0, Value.int IntKind.u8 0, Value.int IntKind.u8 0, Value.int IntKind.u8 0, Value.int IntKind.u8 0, Value.int IntKind.u8 0, Value.int IntKind.u8 0] 46) = W) := ⟨_, rfl⟩
  have HF := frame2 w (Obj.cells #[Value.int IntKind.i64 z] 26) #[Value.int IntKind.u8 0, Value.int IntKind.u8 0, Value.int IntKind.u8 0, Value.int IntKind.u8 0, Value.int IntKind.u8 0, Value.int IntKind.u8 0, Value.int IntKind.u8 0, Value.int IntKind.u8 0, Value.int IntKind.u8 0, Value.int IntKind.u8 0, Value.int IntKind.u8 0, Value.int IntKind.u8 0, Value.int IntKind.u8 0, Value.int IntKind.u8 0, Value.int IntKind.u8 0, Value.int IntKind.u8 0, Value.int IntKind.u8 0, Value.int IntKind.u8 0, Value.int IntKind.u8 0, Value.int IntKind.u8 0, Value.int IntKind.u8 0, Value.int IntKind.u8 0, Value.int IntKind.u8 0, Value.int IntKind.u8 0, Value.int IntKind.u8 0, Value.int IntKind.u8 0, Value.int IntKind.u8 0, Value.int IntKind.u8 0, Value.int IntKind.u8 0, Value.int IntKind.u8 0, Value.int IntKind.u8 0, Value.int IntKind.u8 0] 46
  rw [HW0.out] at HF ⊢
  have c0 : W0.cell? ⟨w.heap.size, 0, none⟩ = some (.int .i64 z) := by rw [cell_of_row W0 _ 0 _ _ _ HF.1]; rfl
  have HFH : Hid _ := HF
  clear HF HW0
  go_wp2_with fail
  refine (HCK.out _ HFH.out.2.2.1).mono ?_
  rintro e w1 ⟨rfl, hb1⟩
  have HB1 : Hid (Below W0.heap.size W0 w1) := hb1
  have hres : w1.heap[w.heap.size + 1]? = some (.cells #[Value.int IntKind.u8 0, Value.int IntKind.u8 0, Value.int IntKind.u8 0, Value.int IntKind.u8 0, Value.int IntKind.u8 0, Value.int IntKind.u8 0, Value.int IntKind.u8 0, Value.int IntKind.u8 0, Value.int IntKind.u8 0, Value.int IntKind.u8 0, Value.int IntKind.u8 0, Value.int IntKind.u8 0, Value.int IntKind.u8 0, Value.int IntKind.u8 0, Value.int IntKind.u8 0, Value.int IntKind.u8 0, Value.int IntKind.u8 0, Value.int IntKind.u8 0, Value.int IntKind.u8 0, Value.int IntKind.u8 0, Value.int IntKind.u8 0, Value.int IntKind.u8 0, Value.int IntKind.u8 0, Value.int IntKind.u8 0, Value.int IntKind.u8 0, Value.int IntKind.u8 0, Value.int IntKind.u8 0, Value.int IntKind.u8 0, Value.int IntKind.u8 0, Value.int IntKind.u8 0, Value.int IntKind.u8 0, Value.int IntKind.u8 0] 46 (0, 0)) := by
    rw [hb1.block _ (by rw [HFH.out.2.2.2]; omega)]; exact HFH.out.2.1
  have HRES : Hid _ := hres
  clear hres hb1 HCK hz0 hz c0
  unfold dv
  go_wp2_with (refine wpList_store_row rfl 46 (.tmp 4) (.tmp 13) rfl (w.heap.size + 1) (cellsOf d).toArray rfl rfl 46 _ HRES.out (by rw [size24, dig_size HDL.out]) (by rw [dig_size HDL.out]; rfl) (cells_all _) ?_)
  go_wp2_with fail
  refine bodyPost_ret (results_cell_row rfl _ _ (w.heap.size + 1) 46 (cellsOf d).toArray (0, 0) _ rfl (setRow_heap _ _ _ _ _ _ HRES.out) Tryd.underlying46 rfl (by rw [size24, dig_size HDL.out])) rfl ?_
  exact ⟨rfl, below_row (HFH.out.2.2.1.trans (HB1.out.mono (by rw [HFH.out.2.2.2]; omega))) (by omega) _⟩
set_option maxRecDepth 100000 in
set_option maxHeartbeats 2000000 in
theorem root_one (z : Int) (b off c : Nat) (p : LV) (w : World) (hL : LeavesV w (some ⟨b, off, none⟩) 1 c [p]) (hK : WW w 1 ks) (hz0 : 1 < w.heap.size) (hz : -9223372036854775808 ≤ z ∧ z ≤ 9223372036854775807) :
    Calls Tryd.prog 63 #[.agg #[.int .i64 z], .slice (some ⟨b, off, none⟩) 1 c] w fun e w' => e = .returned (dv (rootD z [p.bs])) ∧ Below w.heap.size w w' := by
  have hdl := rootD_length z [p.bs]
  obtain ⟨d, HD⟩ : ∃ d, Hid (rootD z [p.bs] = d) := ⟨_, rfl⟩
  rw [HD.out] at hdl ⊢
  have HDL : Hid (d.length = 32) := hdl
  obtain ⟨b', off', hb', hA⟩ := hL.2.2.2 (by omega)
  cases hb'
  obtain ⟨g1, g2, g3, g4⟩ := hA 0 p rfl
  rw [Nat.add_zero] at g1
  have HCK : Hid (∀ W, Below w.heap.size w W → Calls Tryd.prog 85 #[.agg #[.int .i64 z], .slice p.ao p.n p.c] W fun e w' => e = .returned (dv d) ∧ Below W.heap.size W w') := fun W hW => by
    have h1 := leaf_any z p.ao p.n p.c p.bs W (bytes_kept g2 hW (Nat.le_refl _)) g4 g3 (hK.below hW hz0) (Nat.lt_of_lt_of_le hz0 hW.size) hz
    rw [show d = leafD z p.bs from HD.out.symm]
    exact h1
  obtain ⟨sl, HSL⟩ : ∃ v, Hid (Value.slice p.ao p.n p.c = v) := ⟨_, rfl⟩
  rw [HSL.out] at HCK g1
  have HG1 : Hid (w.cell? ⟨b, off, none⟩ = some sl) := g1
  clear hdl hK hL hA g1 g2 g3 g4
  go_enter Tryd.func63, Tryd.ntmps63
  go_upto_region 5 with fail
  obtain ⟨W0, HW0⟩ : ∃ W, Hid ((w.alloc (Obj.cells #[Value.int IntKind.i64 z] 26)).alloc (Obj.cells #[Value.int IntKind.u8 0, Value.int IntKind.u8 0, Value.int IntKind.u8 0, Value.int IntKind.u8 0, Value.int IntKind.u8 0, Value.int IntKind.u8 0, Value.int IntKind.u8 0, Value.int IntKind.u8 0, Value.int IntKind.u8 0, Value.int IntKind.u8 0, Value.int IntKind.u8 0, Value.int IntKind.u8 0, Value.int IntKind.u8 0, Value.int IntKind.u8 0, Value.int IntKind.u8 0, Value.int IntKind.u8 0, Value.int IntKind.u8 0, Value.int IntKind.u8 0, Value.int IntKind.u8 0, Value.int IntKind.u8 0, Value.int IntKind.u8 0, Value.int IntKind.u8 0, Value.int IntKind.u8 0, Value.int IntKind.u8 0, Value.int IntKind.u8 0, Value.int IntKind.u8 0, Value.int IntKind.u8 0, Value.int IntKind.u8 0, Value.int IntKind.u8 0, Value.int IntKind.u8 0, Value.int IntKind.u8 0, Value.int IntKind.u8 0] 46) = W) := ⟨_, rfl⟩
  have HF := frame2 w (Obj.cells #[Value.int IntKind.i64 z] 26) #[Value.int IntKind.u8 0, Value.int IntKind.u8 0, Value.int IntKind.u8 0, Value.int IntKind.u8 0, Value.int IntKind.u8 0, Value.int IntKind.u8 0, Value.int IntKind.u8 0, Value.int IntKind.u8 0, Value.int IntKind.u8 0, Value.int IntKind.u8 0, Value.int IntKind.u8 0, Value.int IntKind.u8 0, Value.int IntKind.u8 0, Value.int IntKind.u8 0, Value.int IntKind.u8 0, Value.int IntKind.u8 0, Value.int IntKind.u8 0, Value.int IntKind.u8 0, Value.int IntKind.u8 0, Value.int IntKind.u8 0, Value.int IntKind.u8 0, Value.int IntKind.u8 0, Value.int IntKind.u8 0, Value.int IntKind.u8 0, Value.int IntKind.u8 0, Value.int IntKind.u8 0, Value.int IntKind.u8 0, Value.int IntKind.u8 0, Value.int IntKind.u8 0, Value.int IntKind.u8 0, Value.int IntKind.u8 0, Value.int IntKind.u8 0] 46
  rw [HW0.out] at HF ⊢
  have c0' : W0.cell? ⟨w.heap.size, 0, none⟩ = some (.int .i64 z) := by rw [cell_of_row W0 _ 0 _ _ _ HF.1]; rfl
  have c0 : W0.drew.cell? ⟨w.heap.size, 0, none⟩ = some (.int .i64 z) := c0'
  have c1 : W0.drew.cell? ⟨b, off, none⟩ = some sl := bel_cell2 (Below.drew HF.2.2.1) (Nat.le_refl _) HG1.out
  have HFH : Hid _ := HF
  have HC : Hid (∀ W, Below W0.heap.size W0 W → W.cell? ⟨w.heap.size, 0, none⟩ = some (.int .i64 z) ∧ W.cell? ⟨b, off, none⟩ = some sl) := fun W hW => ⟨bel_cell2 hW (Nat.le_refl _) c0', bel_cell2 hW (Nat.le_refl _) (bel_cell2 HF.2.2.1 (Nat.le_refl _) HG1.out)⟩
  clear HF HW0 c0'
  refine wp_region_held_drew (S := fun w' => w'.cell? ⟨w.heap.size, 0, none⟩ = some (.int .i64 z) ∧ w'.cell? ⟨b, off, none⟩ = some sl) (by kernel_rfl) ⟨c0, c1⟩ (fun hS => ?_)
  refine wpAnyH_take (i := 0) (v := ?_) rfl (by kernel_rfl) (by kernel_rfl) (by kernel_rfl) (fun _ _ _ h => h) (Or.inl ⟨by rfl, ?_⟩) (by assumption) ?_
  rotate_left
  · (intro w hSw; (try dsimp only at hSw); go_simp; try with_reducible rfl)
  simp only [Act.put, List.getElem_toArray, List.getElem_cons_zero, List.setIfInBounds_toArray, List.set_cons_zero, List.set_cons_succ]
  refine wpAnyH_take (i := 1) (v := ?_) rfl (by kernel_rfl) (by kernel_rfl) (by kernel_rfl) (fun _ _ _ h => h) (Or.inl ⟨by rfl, ?_⟩) (by assumption) ?_
  rotate_left
  · (intro w hSw; (try dsimp only at hSw); go_simp; try with_reducible rfl)
  simp only [Act.put, List.getElem_toArray, List.getElem_cons_zero, List.getElem_cons_succ, List.setIfInBounds_toArray, List.set_cons_zero, List.set_cons_succ]
  refine wpAnyH_take (i := 2) (v := ?_) rfl (by kernel_rfl) (by kernel_rfl) (by kernel_rfl) (fun _ _ _ h => h) (Or.inl ⟨by rfl, ?_⟩) (by assumption) ?_
  rotate_left
  · (intro w hSw; (try dsimp only at hSw); go_simp; try with_reducible rfl)
  simp only [Act.put, List.getElem_toArray, List.getElem_cons_zero, List.getElem_cons_succ, List.setIfInBounds_toArray, List.set_cons_zero, List.set_cons_succ]
  refine wpAnyH_take (i := 3) (v := ?_) rfl (by kernel_rfl) (by kernel_rfl) (by kernel_rfl) (fun _ _ _ h => h) (Or.inl ⟨by rfl, ?_⟩) (by assumption) ?_
  rotate_left
  · (intro w hSw; (try dsimp only at hSw); go_simp; try with_reducible rfl)
  simp only [Act.put, List.getElem_toArray, List.getElem_cons_zero, List.getElem_cons_succ, List.setIfInBounds_toArray, List.set_cons_zero, List.set_cons_succ]
  refine wpAnyH_ready (rs := [4]) (by kernel_rfl) (by simp) ?_
  refine AllReadyH.cons rfl (fun K hK => ?_) AllReadyH.nil
  go_simp
  refine (HCK.out _ (Below.drew HFH.out.2.2.1)).mono ?_
  rintro e w1 ⟨rfl, hb1⟩
  have HB1 : Hid (Below W0.heap.size W0 w1) := (Below.drew (Below.refl _ _)).trans hb1
  have hres : w1.heap[w.heap.size + 1]? = some (.cells #[Value.int IntKind.u8 0, Value.int IntKind.u8 0, Value.int IntKind.u8 0, Value.int IntKind.u8 0, Value.int IntKind.u8 0, Value.int IntKind.u8 0, Value.int IntKind.u8 0, Value.int IntKind.u8 0, Value.int IntKind.u8 0, Value.int IntKind.u8 0, Value.int IntKind.u8 0, Value.int IntKind.u8 0, Value.int IntKind.u8 0, Value.int IntKind.u8 0, Value.int IntKind.u8 0, Value.int IntKind.u8 0, Value.int IntKind.u8 0, Value.int IntKind.u8 0, Value.int IntKind.u8 0, Value.int IntKind.u8 0, Value.int IntKind.u8 0, Value.int IntKind.u8 0, Value.int IntKind.u8 0, Value.int IntKind.u8 0, Value.int IntKind.u8 0, Value.int IntKind.u8 0, Value.int IntKind.u8 0, Value.int IntKind.u8 0, Value.int IntKind.u8 0, Value.int IntKind.u8 0, Value.int IntKind.u8 0, Value.int IntKind.u8 0] 46 (0, 0)) := by
    rw [HB1.out.block _ (by rw [HFH.out.2.2.2]; omega)]; exact HFH.out.2.1
  go_wp2_with fail
  refine hK.out _ _ (HC.out _ HB1.out) (fun hHeld2 => ?_)
  clear hK K hb1
  refine wpAnyH_ready (rs := [5]) (by kernel_rfl) (by simp) ?_
  refine AllReadyH.cons rfl (fun K hK => ?_) AllReadyH.nil
  rw [if_pos (by rfl)]
  refine wp_store_row 46 (.tmp 4) (.tmp 20) rfl (w.heap.size + 1) (cellsOf d).toArray rfl rfl 46 _ hres (by rw [size24, dig_size HDL.out]) (by rw [dig_size HDL.out]; rfl) (cells_all _) ?_
  refine hK.out _ _ ?_ (fun hHeld2 => ?_)
  · refine ⟨cell_row_far (HC.out _ HB1.out).1 (show w.heap.size ≠ w.heap.size + 1 by omega), cell_row_far (HC.out _ HB1.out).2 ?_⟩
    have := World.block_lt_of_cell? w _ HG1.out
    simp only at this ⊢
    omega
  clear hK K
  refine wpAnyH_done (by kernel_rfl) ?_ _
  have HRES : Hid _ := hres
  clear hres hz0 hz c0 c1 hS hHeld2
  go_wp2_with fail
  refine bodyPost_ret (results_cell_row rfl _ _ (w.heap.size + 1) 46 (cellsOf d).toArray (0, 0) _ rfl (setRow_heap _ _ _ _ _ _ HRES.out) Tryd.underlying46 rfl (by rw [size24, dig_size HDL.out])) rfl ?_
  exact ⟨rfl, below_row (HFH.out.2.2.1.trans (HB1.out.mono (by rw [HFH.out.2.2.2]; omega))) (by omega) _⟩
theorem frame2' (w : World) (x y u v : Value) (t : TypeId) : ∀ W, W = (w.alloc (.cells #[x, y] t)).alloc (.cells #[u, v] t) → W.cell? ⟨w.heap.size, 0, none⟩ = some x ∧ W.cell? ⟨w.heap.size, 1, none⟩ = some y ∧ W.cell? ⟨w.heap.size + 1, 0, none⟩ = some u ∧ W.cell? ⟨w.heap.size + 1, 1, none⟩ = some v ∧ Below w.heap.size w W := by
  rintro W rfl
  obtain ⟨h1, h2, h3, _⟩ := frame2 w (.cells #[x, y] t) #[u, v] t
  refine ⟨?_, ?_, ?_, ?_, h3⟩
  · rw [cell_of_row _ _ 0 _ _ _ h1]; rfl
  · rw [cell_of_row _ _ 1 _ _ _ h1]; rfl
  · rw [cell_of_row _ _ 0 _ _ _ h2]; rfl
  · rw [cell_of_row _ _ 1 _ _ _ h2]; rfl
set_option maxRecDepth 100000 in
set_option maxHeartbeats 4000000 in
theorem root_many (z : Int) (b off n c k : Nat) (d1 d2 : List UInt8) (w : World) (h2 : 2 ≤ n) (hn : n ≤ 1000) (hk : halfN n = k) (hnc : n ≤ c) (l1 : d1.length = 32) (l2 : d2.length = 32) (hK : WW w 1 ks) (hz0 : 1 < w.heap.size) (hz : -9223372036854775808 ≤ z ∧ z ≤ 9223372036854775807)
    (H1 : ∀ W, Below w.heap.size w W → Calls Tryd.prog 63 #[.agg #[.int .i64 z], .slice (some ⟨b, off, none⟩) k c] W fun e w' => e = .returned (dv d1) ∧ Below W.heap.size W w')
    (H2 : ∀ W, Below w.heap.size w W → Calls Tryd.prog 63 #[.agg #[.int .i64 z], .slice (some ⟨b, off + k, none⟩) (n - k) (c - k)] W fun e w' => e = .returned (dv d2) ∧ Below W.heap.size W w') :
    Calls Tryd.prog 63 #[.agg #[.int .i64 z], .slice (some ⟨b, off, none⟩) n c] w fun e w' => e = .returned (dv (nodeD z d1 d2)) ∧ Below w.heap.size w w' := by
  obtain ⟨s1, s2, -, -, -⟩ := halfN_spec n h2 (by omega)
  rw [hk] at s1 s2
  have HCH : Hid (∀ W, Calls Tryd.prog 86 #[.agg #[.int .i64 0, .int .i64 (n : Int)]] W fun e w' => e = .returned (.tuple #[.agg #[.int .i64 0, .int .i64 (k : Int)], .agg #[.int .i64 (k : Int), .int .i64 (n : Int)]]) ∧ Below W.heap.size W w') := fun W => by
    have h := halves_any 0 n W (by omega) (by omega)
    simp only [sv, Nat.sub_zero, hk, Nat.zero_add, Int.natCast_zero] at h
    exact h
  have HO1 : Hid (∀ W, Calls Tryd.prog 75 #[.agg #[.int .i64 0, .int .i64 (k : Int)], .slice (some ⟨b, off, none⟩) n c] W fun e w' => e = .returned (.slice (some ⟨b, off, none⟩) k c) ∧ Below W.heap.size W w') := fun W => by
    have h := of_span 0 k b off n c W (by omega) (by omega) hnc
    simp only [sv, Nat.sub_zero, Nat.add_zero, Int.natCast_zero] at h
    exact h
  have HO2 : Hid (∀ W, Calls Tryd.prog 75 #[.agg #[.int .i64 (k : Int), .int .i64 (n : Int)], .slice (some ⟨b, off, none⟩) n c] W fun e w' => e = .returned (.slice (some ⟨b, off + k, none⟩) (n - k) (c - k)) ∧ Below W.heap.size W w') := fun W => of_span k n b off n c W s2 (Nat.le_refl _) hnc
  have HN : Hid (∀ W, Below w.heap.size w W → Calls Tryd.prog 87 #[.agg #[.int .i64 z], dv d1, dv d2] W fun e w' => e = .returned (dv (nodeD z d1 d2)) ∧ Below W.heap.size W w') := fun W hW => node_any z d1 d2 W l1 l2 (hK.below hW hz0) (Nat.lt_of_lt_of_le hz0 hW.size) hz
  have HH1 : Hid _ := H1
  have HH2 : Hid _ := H2
  have hdl := nodeD_length z d1 d2
  obtain ⟨d, HD⟩ : ∃ d, Hid (nodeD z d1 d2 = d) := ⟨_, rfl⟩
  rw [HD.out] at hdl HN ⊢
  have HDL : Hid (d.length = 32) := hdl
  obtain ⟨v1, HV1⟩ : ∃ v, Hid (dv d1 = v) := ⟨_, rfl⟩
  obtain ⟨v2, HV2⟩ : ∃ v, Hid (dv d2 = v) := ⟨_, rfl⟩
  rw [HV1.out] at HN HH1
  rw [HV2.out] at HN HH2
  have hn0 : ((n : Int) == 0) = false := by simp; omega
  have hn1 : ((n : Int) == 1) = false := by simp; omega
  clear hdl hK H1 H2 l1 l2 s1 s2 h2 hn hk hnc hz hz0
  go_enter Tryd.func63, Tryd.ntmps63
  go_upto_region 6 with fail
  obtain ⟨W0, HW0⟩ : ∃ W, Hid ((w.alloc (Obj.cells #[Value.int IntKind.i64 z] 26)).alloc (Obj.cells #[Value.int IntKind.u8 0, Value.int IntKind.u8 0, Value.int IntKind.u8 0, Value.int IntKind.u8 0, Value.int IntKind.u8 0, Value.int IntKind.u8 0, Value.int IntKind.u8 0, Value.int IntKind.u8 0, Value.int IntKind.u8 0, Value.int IntKind.u8 0, Value.int IntKind.u8 0, Value.int IntKind.u8 0, Value.int IntKind.u8 0, Value.int IntKind.u8 0, Value.int IntKind.u8 0, Value.int IntKind.u8 0, Value.int IntKind.u8 0, Value.int IntKind.u8 0, Value.int IntKind.u8 0, Value.int IntKind.u8 0, Value.int IntKind.u8 0, Value.int IntKind.u8 0, Value.int IntKind.u8 0, Value.int IntKind.u8 0, Value.int IntKind.u8 0, Value.int IntKind.u8 0, Value.int IntKind.u8 0, Value.int IntKind.u8 0, Value.int IntKind.u8 0, Value.int IntKind.u8 0, Value.int IntKind.u8 0, Value.int IntKind.u8 0] 46) = W) := ⟨_, rfl⟩
  have HF := frame2 w (Obj.cells #[Value.int IntKind.i64 z] 26) #[Value.int IntKind.u8 0, Value.int IntKind.u8 0, Value.int IntKind.u8 0, Value.int IntKind.u8 0, Value.int IntKind.u8 0, Value.int IntKind.u8 0, Value.int IntKind.u8 0, Value.int IntKind.u8 0, Value.int IntKind.u8 0, Value.int IntKind.u8 0, Value.int IntKind.u8 0, Value.int IntKind.u8 0, Value.int IntKind.u8 0, Value.int IntKind.u8 0, Value.int IntKind.u8 0, Value.int IntKind.u8 0, Value.int IntKind.u8 0, Value.int IntKind.u8 0, Value.int IntKind.u8 0, Value.int IntKind.u8 0, Value.int IntKind.u8 0, Value.int IntKind.u8 0, Value.int IntKind.u8 0, Value.int IntKind.u8 0, Value.int IntKind.u8 0, Value.int IntKind.u8 0, Value.int IntKind.u8 0, Value.int IntKind.u8 0, Value.int IntKind.u8 0, Value.int IntKind.u8 0, Value.int IntKind.u8 0, Value.int IntKind.u8 0] 46
  rw [HW0.out] at HF ⊢
  have HC0 : Hid (W0.cell? ⟨w.heap.size, 0, none⟩ = some (.int .i64 z)) := by show _ = _; rw [cell_of_row W0 _ 0 _ _ _ HF.1]; rfl
  have HFH : Hid _ := HF
  clear HF HW0
  go_wp2_with fail
  refine (HCH.out _).mono ?_
  rintro e w1 ⟨rfl, hb1⟩
  have HB1 : Hid (Below W0.heap.size W0 w1) := hb1
  clear hb1
  go_upto_region 7 with fail
  obtain ⟨W2, HW2⟩ : ∃ W, Hid (W = (w1.alloc (Obj.cells #[Value.int IntKind.i64 0, Value.int IntKind.i64 (k : Int)] 120)).alloc (Obj.cells #[Value.int IntKind.i64 (k : Int), Value.int IntKind.i64 (n : Int)] 120)) := ⟨_, rfl⟩
  rw [← HW2.out]
  obtain ⟨f0, f1, f2, f3, f4⟩ := frame2' w1 _ _ _ _ _ W2 HW2.out
  have HB2 : Hid (Below W0.heap.size W0 W2) := HB1.out.trans (f4.mono HB1.out.size)
  have HC : Hid (∀ W, Below W2.heap.size W2 W → W.cell? ⟨w.heap.size, 0, none⟩ = some (.int .i64 z) ∧ W.cell? ⟨w1.heap.size, 0, none⟩ = some (.int .i64 0) ∧ W.cell? ⟨w1.heap.size, 1, none⟩ = some (.int .i64 (k : Int)) ∧ W.cell? ⟨w1.heap.size + 1, 0, none⟩ = some (.int .i64 (k : Int)) ∧ W.cell? ⟨w1.heap.size + 1, 1, none⟩ = some (.int .i64 (n : Int))) := fun W hW =>
    ⟨bel_cell2 hW (Nat.le_refl _) (bel_cell2 HB2.out (Nat.le_refl _) HC0.out), bel_cell2 hW (Nat.le_refl _) f0, bel_cell2 hW (Nat.le_refl _) f1, bel_cell2 hW (Nat.le_refl _) f2, bel_cell2 hW (Nat.le_refl _) f3⟩
  have HW : Hid (Below w.heap.size w W2) := HFH.out.2.2.1.trans (HB2.out.mono (by rw [HFH.out.2.2.2]; omega))
  clear f0 f1 f2 f3 f4 HW2
  refine wp_region_held_drew (S := fun W => W.cell? ⟨w.heap.size, 0, none⟩ = some (.int .i64 z) ∧ W.cell? ⟨w1.heap.size, 0, none⟩ = some (.int .i64 0) ∧ W.cell? ⟨w1.heap.size, 1, none⟩ = some (.int .i64 (k : Int)) ∧ W.cell? ⟨w1.heap.size + 1, 0, none⟩ = some (.int .i64 (k : Int)) ∧ W.cell? ⟨w1.heap.size + 1, 1, none⟩ = some (.int .i64 (n : Int))) (by kernel_rfl) (HC.out _ (Below.drew (Below.refl _ _))) (fun hS => ?_)
  refine wpAnyH_take (i := 0) (v := ?_) rfl (by kernel_rfl) (by kernel_rfl) (by kernel_rfl) (fun _ _ _ h => h) (Or.inl ⟨by rfl, ?_⟩) (by assumption) ?_
  rotate_left
  · (intro w hSw; (try dsimp only at hSw); go_simp; try with_reducible rfl)
  simp only [Act.put, List.getElem_toArray, List.getElem_cons_zero, List.setIfInBounds_toArray, List.set_cons_zero, List.set_cons_succ]
  refine wpAnyH_take (i := 1) (v := ?_) rfl (by kernel_rfl) (by kernel_rfl) (by kernel_rfl) (fun _ _ _ h => h) (Or.inl ⟨by rfl, ?_⟩) (by assumption) ?_
  rotate_left
  · (intro w hSw; (try dsimp only at hSw); go_simp; try with_reducible rfl)
  simp only [Act.put, List.getElem_toArray, List.getElem_cons_zero, List.getElem_cons_succ, List.setIfInBounds_toArray, List.set_cons_zero, List.set_cons_succ]
  refine wpAnyH_take (i := 2) (v := ?_) rfl (by kernel_rfl) (by kernel_rfl) (by kernel_rfl) (fun _ _ _ h => h) (Or.inl ⟨by rfl, ?_⟩) (by assumption) ?_
  rotate_left
  · (intro w hSw; (try dsimp only at hSw); go_simp; try with_reducible rfl)
  simp only [Act.put, List.getElem_toArray, List.getElem_cons_zero, List.getElem_cons_succ, List.setIfInBounds_toArray, List.set_cons_zero, List.set_cons_succ]
  refine wpAnyH_take (i := 3) (v := ?_) rfl (by kernel_rfl) (by kernel_rfl) (by kernel_rfl) (fun _ _ _ h => h) (Or.inl ⟨by rfl, ?_⟩) (by assumption) ?_
  rotate_left
  · (intro w hSw; (try dsimp only at hSw); go_simp; try with_reducible rfl)
  simp only [Act.put, List.getElem_toArray, List.getElem_cons_zero, List.getElem_cons_succ, List.setIfInBounds_toArray, List.set_cons_zero, List.set_cons_succ]
  refine wpAnyH_take (i := 6) (v := ?_) rfl (by kernel_rfl) (by kernel_rfl) (by kernel_rfl) (fun _ _ _ h => h) (Or.inl ⟨by rfl, ?_⟩) (by assumption) ?_
  rotate_left
  · (intro w hSw; (try dsimp only at hSw); go_simp; try with_reducible rfl)
  simp only [Act.put, List.getElem_toArray, List.getElem_cons_zero, List.getElem_cons_succ, List.setIfInBounds_toArray, List.set_cons_zero, List.set_cons_succ]
  refine wpAnyH_take (i := 7) (v := ?_) rfl (by kernel_rfl) (by kernel_rfl) (by kernel_rfl) (fun _ _ _ h => h) (Or.inl ⟨by rfl, ?_⟩) (by assumption) ?_
  rotate_left
  · (intro w hSw; (try dsimp only at hSw); go_simp; try with_reducible rfl)
  simp only [Act.put, List.getElem_toArray, List.getElem_cons_zero, List.getElem_cons_succ, List.setIfInBounds_toArray, List.set_cons_zero, List.set_cons_succ]
  refine wpAnyH_take (i := 8) (v := ?_) rfl (by kernel_rfl) (by kernel_rfl) (by kernel_rfl) (fun _ _ _ h => h) (Or.inl ⟨by rfl, ?_⟩) (by assumption) ?_
  rotate_left
  · (intro w hSw; (try dsimp only at hSw); go_simp; try with_reducible rfl)
  simp only [Act.put, List.getElem_toArray, List.getElem_cons_zero, List.getElem_cons_succ, List.setIfInBounds_toArray, List.set_cons_zero, List.set_cons_succ]
  refine wpAnyH_ready (rs := [4]) (by kernel_rfl) (by simp) ?_
  refine AllReadyH.cons rfl (fun K hK => ?_) AllReadyH.nil
  go_simp
  refine (HO1.out _).mono ?_
  rintro e w3 ⟨rfl, hb3⟩
  have HB3 : Hid (Below W2.heap.size W2 w3) := (Below.drew (Below.refl _ _)).trans hb3
  go_wp2_with fail
  refine hK.out _ _ (HC.out _ HB3.out) (fun hHeld2 => ?_)
  clear hK K hb3
  refine wpAnyH_ready (rs := [5]) (by kernel_rfl) (by simp) ?_
  refine AllReadyH.cons rfl (fun K hK => ?_) AllReadyH.nil
  go_simp
  refine (HH1.out _ (HW.out.trans (HB3.out.mono HW.out.size))).mono ?_
  rintro e w4 ⟨rfl, hb4⟩
  have HB4 : Hid (Below W2.heap.size W2 w4) := HB3.out.trans (hb4.mono HB3.out.size)
  go_wp2_with fail
  refine hK.out _ _ (HC.out _ HB4.out) (fun hHeld2 => ?_)
  clear hK K hb4
  refine wpAnyH_ready (rs := [9]) (by kernel_rfl) (by simp) ?_
  refine AllReadyH.cons rfl (fun K hK => ?_) AllReadyH.nil
  go_simp
  refine (HO2.out _).mono ?_
  rintro e w5 ⟨rfl, hb5⟩
  have HB5 : Hid (Below W2.heap.size W2 w5) := HB4.out.trans (hb5.mono HB4.out.size)
  go_wp2_with fail
  refine hK.out _ _ (HC.out _ HB5.out) (fun hHeld2 => ?_)
  clear hK K hb5
  refine wpAnyH_ready (rs := [10]) (by kernel_rfl) (by simp) ?_
  refine AllReadyH.cons rfl (fun K hK => ?_) AllReadyH.nil
  go_simp
  refine (HH2.out _ (HW.out.trans (HB5.out.mono HW.out.size))).mono ?_
  rintro e w6 ⟨rfl, hb6⟩
  have HB6 : Hid (Below W2.heap.size W2 w6) := HB5.out.trans (hb6.mono HB5.out.size)
  go_wp2_with fail
  refine hK.out _ _ (HC.out _ HB6.out) (fun hHeld2 => ?_)
  clear hK K hb6
  refine wpAnyH_ready (rs := [11]) (by kernel_rfl) (by simp) ?_
  refine AllReadyH.cons rfl (fun K hK => ?_) AllReadyH.nil
  go_simp
  refine (HN.out _ (HW.out.trans (HB6.out.mono HW.out.size))).mono ?_
  rintro e w7 ⟨rfl, hb7⟩
  have HB7 : Hid (Below W2.heap.size W2 w7) := HB6.out.trans (hb7.mono HB6.out.size)
  have hres : w7.heap[w.heap.size + 1]? = some (.cells #[Value.int IntKind.u8 0, Value.int IntKind.u8 0, Value.int IntKind.u8 0, Value.int IntKind.u8 0, Value.int IntKind.u8 0, Value.int IntKind.u8 0, Value.int IntKind.u8 0, Value.int IntKind.u8 0, Value.int IntKind.u8 0, Value.int IntKind.u8 0, Value.int IntKind.u8 0, Value.int IntKind.u8 0, Value.int IntKind.u8 0, Value.int IntKind.u8 0, Value.int IntKind.u8 0, Value.int IntKind.u8 0, Value.int IntKind.u8 0, Value.int IntKind.u8 0, Value.int IntKind.u8 0, Value.int IntKind.u8 0, Value.int IntKind.u8 0, Value.int IntKind.u8 0, Value.int IntKind.u8 0, Value.int IntKind.u8 0, Value.int IntKind.u8 0, Value.int IntKind.u8 0, Value.int IntKind.u8 0, Value.int IntKind.u8 0, Value.int IntKind.u8 0, Value.int IntKind.u8 0, Value.int IntKind.u8 0, Value.int IntKind.u8 0] 46 (0, 0)) := by
    rw [HB7.out.block _ (by have := HB2.out.size; rw [HFH.out.2.2.2] at this; omega), HB2.out.block _ (by rw [HFH.out.2.2.2]; omega)]; exact HFH.out.2.1
  go_wp2_with fail
  refine hK.out _ _ (HC.out _ HB7.out) (fun hHeld2 => ?_)
  clear hK K hb7
  refine wpAnyH_ready (rs := [12]) (by kernel_rfl) (by simp) ?_
  refine AllReadyH.cons rfl (fun K hK => ?_) AllReadyH.nil
  rw [if_pos (by rfl)]
  refine wp_store_row 46 (.tmp 4) (.tmp 39) rfl (w.heap.size + 1) (cellsOf d).toArray rfl rfl 46 _ hres (by rw [size24, dig_size HDL.out]) (by rw [dig_size HDL.out]; rfl) (cells_all _) ?_
  refine hK.out _ _ ?_ (fun hHeld2 => ?_)
  · obtain ⟨q0, q1, q2, q3, q4⟩ := HC.out _ HB7.out
    have hw1 : w.heap.size + 2 ≤ w1.heap.size := by have := HB1.out.size; rw [HFH.out.2.2.2] at this; exact this
    exact ⟨cell_row_far q0 (show w.heap.size ≠ w.heap.size + 1 by omega), cell_row_far q1 (show w1.heap.size ≠ w.heap.size + 1 by omega), cell_row_far q2 (show w1.heap.size ≠ w.heap.size + 1 by omega), cell_row_far q3 (show w1.heap.size + 1 ≠ w.heap.size + 1 by omega), cell_row_far q4 (show w1.heap.size + 1 ≠ w.heap.size + 1 by omega)⟩
  clear hK K
  refine wpAnyH_done (by kernel_rfl) ?_ _
  have HRES : Hid _ := hres
  clear hres hS hHeld2
  go_wp2_with fail
  refine bodyPost_ret (results_cell_row rfl _ _ (w.heap.size + 1) 46 (cellsOf d).toArray (0, 0) _ rfl (setRow_heap _ _ _ _ _ _ HRES.out) Tryd.underlying46 rfl (by rw [size24, dig_size HDL.out])) rfl ?_
  exact ⟨rfl, below_row (HW.out.trans (HB7.out.mono HW.out.size)) (by omega) _⟩
/-- tree.Root of a tree, of whatever leaves (a thousand at most). -/
theorem root_any (z : Int) (hz : -9223372036854775808 ≤ z ∧ z ≤ 9223372036854775807) : ∀ (n : Nat) (ao : Option Addr) (c : Nat) (ls : List LV) (w : World), LeavesV w ao n c ls → n ≤ 1000 → WW w 1 ks → 1 < w.heap.size →
    Calls Tryd.prog 63 #[.agg #[.int .i64 z], .slice ao n c] w fun e w' => e = .returned (dv (rootD z (bytesL ls))) ∧ Below w.heap.size w w' := by
  intro n
  induction n using Nat.strongRecOn with
  | ind n ih =>
    intro ao c ls w hL hn hK hz0
    by_cases h0 : n = 0
    · subst h0
      obtain rfl := List.eq_nil_of_length_eq_zero hL.1
      exact root_zero z ao c w hK hz0 hz
    · obtain ⟨b, off, rfl, hA⟩ := hL.2.2.2 (by omega)
      by_cases h1 : n = 1
      · subst h1
        obtain ⟨p, rfl⟩ := List.length_eq_one_iff.1 hL.1
        exact root_one z b off c p w hL hK hz0 hz
      · obtain ⟨s1, s2, -, -, -⟩ := halfN_spec n (by omega) (by omega)
        have hlen : (bytesL ls).length = n := by rw [bytesL, List.length_map]; exact hL.1
        rw [rootD_two z (bytesL ls) (by omega) (by omega), hlen]
        have e1 : (bytesL ls).take (halfN n) = bytesL (ls.take (halfN n)) := by unfold bytesL; rw [List.map_take]
        have e2 : (bytesL ls).drop (halfN n) = bytesL (ls.drop (halfN n)) := by unfold bytesL; rw [List.map_drop]
        rw [e1, e2]
        refine root_many z b off n c (halfN n) _ _ w (by omega) hn rfl hL.2.1 (rootD_length _ _) (rootD_length _ _) hK hz0 hz ?_ ?_
        · intro W hW
          exact ih (halfN n) s2 _ c (ls.take (halfN n)) W ((hL.below hW (Nat.le_refl _)).take _ (Nat.le_of_lt s2)) (by omega) (hK.below hW hz0) (Nat.lt_of_lt_of_le hz0 hW.size)
        · intro W hW
          exact ih (n - halfN n) (by omega) _ (c - halfN n) (ls.drop (halfN n)) W ((hL.below hW (Nat.le_refl _)).drop _ s2) (by omega) (hK.below hW hz0) (Nat.lt_of_lt_of_le hz0 hW.size)
end Go.Proofs.YtecacjddggljgaaDoor.Sm
