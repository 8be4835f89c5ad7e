/-
  The shape of a tree, and what math/bits.Len answers: contracts over this translation. What tree.span's halves and of answer: contracts over this translation.
-/
import Derived.Test.YtaebpnednhkfhaaDoorLeaf
import Derived.Lib.BitFns
namespace Go.Proofs.YtaebpnednhkfhaaDoor
open Go.RowKit
/-! ### the shape -/
theorem bitLen_bounds : ∀ (x : Nat), x ≠ 0 → x < 2 ^ 64 → 1 ≤ Lib.bitLen x ∧ 2 ^ (Lib.bitLen x - 1) ≤ x ∧ x < 2 ^ Lib.bitLen x := by
  intro x
  induction x using Nat.strongRecOn with
  | ind x ih =>
    intro h0 h
    rw [Lib.bitLen_half x h0 h]
    by_cases h1 : x / 2 = 0
    · have : x = 1 := by omega
      subst this
      decide
    · obtain ⟨a, b, c⟩ := ih (x / 2) (by omega) h1 (by omega)
      generalize Lib.bitLen (x / 2) = k at *
      obtain ⟨j, rfl⟩ : ∃ j, k = j + 1 := ⟨k - 1, by omega⟩
      rw [Nat.add_sub_cancel] at b
      rw [show 1 + (j + 1) - 1 = j + 1 by omega, show 1 + (j + 1) = j + 1 + 1 by omega, Nat.pow_succ, Nat.pow_succ]
      rw [Nat.pow_succ] at c
      omega
/-- The greatest power of two below n. -/
def halfN (n : Nat) : Nat := 2 ^ (Lib.bitLen (n - 1) - 1)
theorem halfN_spec (n : Nat) (h2 : 2 ≤ n) (hn : n ≤ 9223372036854775807) : 1 ≤ halfN n ∧ halfN n < n ∧ n ≤ 2 * halfN n ∧ Lib.bitLen (n - 1) ≤ 63 ∧ 1 ≤ Lib.bitLen (n - 1) := by
  obtain ⟨a, b, c⟩ := bitLen_bounds (n - 1) (by omega) (by omega)
  have d := Lib.bitLen_le (n - 1) 63 (by omega) (by omega)
  unfold halfN
  generalize Lib.bitLen (n - 1) = k at *
  obtain ⟨j, rfl⟩ : ∃ j, k = j + 1 := ⟨k - 1, by omega⟩
  rw [Nat.add_sub_cancel] at *
  rw [Nat.pow_succ] at c
  have := Nat.two_pow_pos j
  omega
/-! ### math/bits.Len -/
theorem tab_at (y : Int) (h : y.toNat < Lib.len8tab.size) (h0 : 0 ≤ y) (h1 : y < 256) : ((Lib.len8tab[y.toNat]'h).toNat : Int) = (Lib.bitLen y.toNat : Int) := by
  rw [← Lib.len8_of y h0 (by omega), Lib.len8, ByteArray.getElem?_lt' _ _ h, Option.getD_some]
theorem wrap64_small (n : Int) (h0 : 0 ≤ n) (h1 : n ≤ 1000) : wrap64 n = n := by
  unfold wrap64
  omega
theorem len_way (k p : Nat) (x y : Int) (h : y.toNat < Lib.len8tab.size) (h0 : 0 ≤ y) (h1 : y < 256) (hp : 2 ^ k = p) (hk : k ≤ 64) (hx0 : 0 ≤ x) (hx1 : x ≤ 18446744073709551615) (hpx : (p : Int) ≤ x)
    (hy : y.toNat = x.toNat / p) : wrap64 ((k : Int) + wrap64 ((Lib.len8tab[y.toNat]'h).toNat : Int)) = (Lib.bitLen x.toNat : Int) := by
  have hb := Lib.bitLen_le8' y h0 (by omega)
  have hin := wrap64_small (Lib.bitLen y.toNat : Int) (by omega) (by omega)
  rw [tab_at y h h0 h1, hin, wrap64_small _ (by omega) (by omega), Lib.bitLen_shift k x.toNat (by omega) (by omega), hp, hy]
  omega
theorem len_way0 (x : Int) (h : x.toNat < Lib.len8tab.size) (h0 : 0 ≤ x) (h1 : x < 256) : wrap64 (wrap64 ((Lib.len8tab[x.toNat]'h).toNat : Int)) = (Lib.bitLen x.toNat : Int) := by
  have hb := Lib.bitLen_le8' x h0 (by omega)
  have hin := wrap64_small (Lib.bitLen x.toNat : Int) (by omega) (by omega)
  rw [tab_at x h h0 h1, hin, hin]
theorem ret_i64 {a b : Int} (h : a = b) : Ending.returned (.int .i64 a) = .returned (.int .i64 b) := by rw [h]
set_option maxHeartbeats 1000000 in
set_option maxRecDepth 100000 in
theorem len64_any (x : Int) (w : World) (h0 : 0 ≤ x) (h1 : x ≤ 18446744073709551615) :
    Calls Tryd.prog 101 #[.int .u64 x] w fun e w' => e = .returned (.int .i64 (Lib.bitLen x.toNat)) ∧ w' = w := by
  have hs8 := Lib.len8tab_size
  go_enter Tryd.func101, Tryd.ntmps101
  go_wp2
  all_goals go_ret
  · exact ⟨ret_i64 (len_way 56 72057594037927936 x _ _ (by omega) (by omega) (by decide) (by omega) h0 h1 (by omega) (by omega)), rfl⟩
  · exact ⟨ret_i64 (len_way 48 281474976710656 x _ _ (by omega) (by omega) (by decide) (by omega) h0 h1 (by omega) (by omega)), rfl⟩
  · exact ⟨ret_i64 (len_way 40 1099511627776 x _ _ (by omega) (by omega) (by decide) (by omega) h0 h1 (by omega) (by omega)), rfl⟩
  · exact ⟨ret_i64 (len_way 32 4294967296 x _ _ (by omega) (by omega) (by decide) (by omega) h0 h1 (by omega) (by omega)), rfl⟩
  · exact ⟨ret_i64 (len_way 24 16777216 x _ _ (by omega) (by omega) (by decide) (by omega) h0 h1 (by omega) (by omega)), rfl⟩
  · exact ⟨ret_i64 (len_way 16 65536 x _ _ (by omega) (by omega) (by decide) (by omega) h0 h1 (by omega) (by omega)), rfl⟩
  · exact ⟨ret_i64 (len_way 8 256 x _ _ (by omega) (by omega) (by decide) (by omega) h0 h1 (by omega) (by omega)), rfl⟩
  · exact ⟨ret_i64 (len_way0 x _ h0 (by omega)), rfl⟩
set_option maxHeartbeats 1000000 in
set_option maxRecDepth 100000 in
theorem len_any (x : Nat) (w : World) (h1 : x ≤ 18446744073709551615) :
    Calls Tryd.prog 81 #[.int .u64 (x : Int)] w fun e w' => e = .returned (.int .i64 (Lib.bitLen x)) ∧ w' = w := by
  go_enter Tryd.func81, Tryd.ntmps81
  go_wp2_with fail
  refine (len64_any x w (by omega) (by omega)).mono ?_
  rintro e w' ⟨rfl, rfl⟩
  rw [Int.toNat_natCast]
  go_wp2
  go_ret
  exact ⟨rfl, rfl⟩
end Go.Proofs.YtaebpnednhkfhaaDoor
namespace Go.Proofs.YtaebpnednhkfhaaDoor
open Go.RowKit
/-! ### spans -/
theorem shl_val {k p : Nat} (hp : (2 : Nat) ^ k = p) (hb : p ≤ 9223372036854775807) : wrap64 ((2 : Int) ^ k) = (p : Int) := by
  have h : ((2 : Int) ^ k) = ((2 ^ k : Nat) : Int) := by rw [Int.natCast_pow]; rfl
  rw [h, hp]
  unfold wrap64
  omega
theorem le_p {a b p : Nat} (h : p < b - a) (hb : b ≤ 9223372036854775807) : p ≤ 9223372036854775807 := by omega
theorem lt_sum {a b p : Nat} (h : p < b - a) : a + p < b := by omega
theorem le_u {a b : Nat} (h : b ≤ 9223372036854775807) : b - a - 1 ≤ 18446744073709551615 := by omega
def sv (a b : Nat) : Value := .agg #[.int .i64 (a : Int), .int .i64 (b : Int)]
theorem h1z {n : Nat} (h2 : 2 ≤ n) : ((n - 1 : Nat) : Int) = (n : Int) - 1 := by omega
theorem z1 {a b : Nat} (h : a + 2 ≤ b) (hb : b ≤ 9223372036854775807) : wrap64 ((b : Int) - (a : Int)) = ((b - a : Nat) : Int) ∧ wrap64 (((b - a : Nat) : Int) - 1) = ((b - a - 1 : Nat) : Int) ∧ IntKind.u64.wrap ((b - a - 1 : Nat) : Int) = ((b - a - 1 : Nat) : Int) := by
  unfold wrap64
  rw [IntKind.wrap_u64]
  omega
theorem z2 {k a p b : Nat} (hk : 1 ≤ k) (hk2 : k ≤ 63) (hp : a + p < b) (hb : b ≤ 9223372036854775807) : wrap64 ((k : Int) - 1) = ((k - 1 : Nat) : Int) ∧ wrap64 ((a : Int) + (p : Int)) = ((a + p : Nat) : Int) := by unfold wrap64; omega
theorem size78 : (Tryd.prog.info? 78).map (·.size) = some 2 := by kernel_rfl
theorem results_spans {fn : Func} {p q : Tmp} (h : fn.results = #[.cell p 78, .cell q 78]) (tmps : Array Value) (w : World) (g1 g2 : Nat) (t : TypeId) (c1 c2 : Array Value) (fr : Nat × Nat)
    (hp : tmps.getD p undef = .pointer (some ⟨g1, 0, none⟩)) (hq : tmps.getD q undef = .pointer (some ⟨g2, 0, none⟩)) (h1 : w.heap[g1]? = some (.cells c1 t fr)) (h2 : w.heap[g2]? = some (.cells c2 t fr)) (s1 : c1.size = 2) (s2 : c2.size = 2) :
    (results fn tmps).run Tryd.prog w = .ok (.tuple #[.agg c1, .agg c2]) w := by
  have hp' : tmps[p]?.getD undef = .pointer (some ⟨g1, 0, none⟩) := by simpa using hp
  have hq' : tmps[q]?.getD undef = .pointer (some ⟨g2, 0, none⟩) := by simpa using hq
  simp [results, h, hp', hq', asAddr, run_loadVar_row w g1 t 78 c1 fr _ h1 Tryd.underlying78 rfl (by rw [size78, s1]), run_loadVar_row w g2 t 78 c2 fr _ h2 Tryd.underlying78 rfl (by rw [size78, s2])]
theorem heap_set (w : World) (g j : Nat) (cs : Array Value) (t : TypeId) (v : Value) (hg : w.heap[g]? = some (.cells cs t (0, 0))) : (w.setCell ⟨g, j, none⟩ v).heap[g]? = some (.cells (cs.setIfInBounds j v) t (0, 0)) := by
  unfold World.setCell
  simp only [Array.getElem?_modify, if_pos, hg, Option.map_some]
  rfl
theorem two_spans (w : World) (g1 g2 : Nat) (x y z u p q r s : Value) (t : TypeId) (h1 : w.heap[g1]? = some (.cells #[p, q] t (0, 0))) (h2 : w.heap[g2]? = some (.cells #[r, s] t (0, 0))) (hne : g1 ≠ g2) :
    ((((w.setCell ⟨g1, 0, none⟩ x).setCell ⟨g1, 1, none⟩ y).setCell ⟨g2, 0, none⟩ z).setCell ⟨g2, 1, none⟩ u).heap[g1]? = some (.cells #[x, y] t (0, 0)) ∧ ((((w.setCell ⟨g1, 0, none⟩ x).setCell ⟨g1, 1, none⟩ y).setCell ⟨g2, 0, none⟩ z).setCell ⟨g2, 1, none⟩ u).heap[g2]? = some (.cells #[z, u] t (0, 0)) := by
  constructor
  · rw [Below.heap_setCell _ ⟨g2, 1, none⟩ _ _ hne, Below.heap_setCell _ ⟨g2, 0, none⟩ _ _ hne]
    exact heap_set _ _ _ _ _ _ (heap_set _ _ _ _ _ _ h1)
  · have h3 : ((w.setCell ⟨g1, 0, none⟩ x).setCell ⟨g1, 1, none⟩ y).heap[g2]? = some (.cells #[r, s] t (0, 0)) := by
      rw [Below.heap_setCell _ ⟨g1, 1, none⟩ _ _ (Ne.symm hne), Below.heap_setCell _ ⟨g1, 0, none⟩ _ _ (Ne.symm hne)]
      exact h2
    exact heap_set _ g2 1 #[z, s] t u (heap_set _ g2 0 #[r, s] t z h3)
theorem heap_drewN (w : World) (q : Nat) : (w.drewN q).heap = w.heap := by
  induction q with
  | zero => rfl
  | succ q ih => exact ih
theorem frame3 (w : World) (o1 o2 o3 : Obj) : (((w.alloc o1).alloc o2).alloc o3).heap[w.heap.size + 1]? = some o2 ∧ (((w.alloc o1).alloc o2).alloc o3).heap[w.heap.size + 1 + 1]? = some o3 ∧ Below w.heap.size w (((w.alloc o1).alloc o2).alloc o3) := by
  refine ⟨?_, ?_, ((bel_alloc w _).trans ((bel_alloc _ _).mono (by simp))).trans ((bel_alloc _ _).mono (by simp; omega))⟩
  · rw [Below.heap_alloc _ _ _ (by simp)]
    have := heap_alloc_new (w.alloc o1) o2
    simpa using this
  · have := heap_alloc_new ((w.alloc o1).alloc o2) o3
    simpa using this
set_option maxHeartbeats 2000000 in
set_option maxRecDepth 100000 in
theorem halves_any (a b : Nat) (w : World) (h : a + 2 ≤ b) (hb : b ≤ 9223372036854775807) :
    Calls Tryd.prog 58 #[sv a b] w fun e w' => e = .returned (.tuple #[sv a (a + halfN (b - a)), sv (a + halfN (b - a)) b]) ∧ Below w.heap.size w w' := by
  obtain ⟨s1, s2, s3, s4, s5⟩ := halfN_spec (b - a) (by omega) (by omega)
  obtain ⟨p, HP⟩ : ∃ p, Hid (halfN (b - a) = p) := ⟨_, rfl⟩
  obtain ⟨k, HKK⟩ : ∃ k, Hid (Lib.bitLen (b - a - 1) = k) := ⟨_, rfl⟩
  have HPK : Hid ((2 : Nat) ^ (k - 1) = p) := by show _ = _; rw [← HKK.out, ← HP.out, halfN]
  rw [HKK.out] at s4 s5
  rw [HP.out] at s2 ⊢
  obtain ⟨y1, y2, y3⟩ := z1 h hb
  obtain ⟨y4, y5⟩ := z2 (a := a) (p := p) (b := b) s5 s4 (lt_sum s2) hb
  have hsh := shl_val HPK.out (le_p s2 hb)
  have CL := fun W => len_any (b - a - 1) W (le_u hb)
  rw [HKK.out] at CL
  have HCL : Hid _ := CL
  unfold sv
  clear CL s1 s2 s3 h hb
  go_enter Tryd.func58, Tryd.ntmps58
  go_wp2_with fail
  go_quiet ((go_at_call 81; exact Calls.quiet_of_same (HCL.out _)))
  go_wp2_with fail
  have HFR : Hid _ := frame3 w (Obj.cells #[Value.int IntKind.i64 (a : Int), Value.int IntKind.i64 (b : Int)] 78) (Obj.cells #[Value.int IntKind.i64 0, Value.int IntKind.i64 0] 78) (Obj.cells #[Value.int IntKind.i64 0, Value.int IntKind.i64 0] 78)
  go_region
  go_wp2
  obtain ⟨t1, t2⟩ := two_spans ((((w.alloc (Obj.cells #[Value.int IntKind.i64 (a : Int), Value.int IntKind.i64 (b : Int)] 78)).alloc (Obj.cells #[Value.int IntKind.i64 0, Value.int IntKind.i64 0] 78)).alloc (Obj.cells #[Value.int IntKind.i64 0, Value.int IntKind.i64 0] 78)).drewN (nq + 1)) (w.heap.size + 1) (w.heap.size + 1 + 1) (.int .i64 (a : Int)) (.int .i64 ((a : Int) + (p : Int))) (.int .i64 ((a : Int) + (p : Int))) (.int .i64 (b : Int)) _ _ _ _ 78 (by rw [heap_drewN]; exact HFR.out.1) (by rw [heap_drewN]; exact HFR.out.2.1) (by omega)
  refine bodyPost_ret (results_spans rfl _ _ (w.heap.size + 1) (w.heap.size + 1 + 1) 78 _ _ (0, 0) rfl rfl t1 t2 rfl rfl) rfl ?_
  refine ⟨?_, (((((bel_drewN HFR.out.2.2 _).setCell (show w.heap.size ≤ w.heap.size + 1 by omega) _).setCell (show w.heap.size ≤ w.heap.size + 1 by omega) _).setCell (show w.heap.size ≤ w.heap.size + 1 + 1 by omega) _).setCell (show w.heap.size ≤ w.heap.size + 1 + 1 by omega) _)⟩
  rfl
/-- Some leaves of a row, as they lie in memory: their slices, and their bytes. -/
structure LV where
  ao : Option Addr
  n : Nat
  c : Nat
  bs : List UInt8
def LeavesAt (w : World) (b off : Nat) (ls : List LV) : Prop := ∀ i p, ls[i]? = some p → w.cell? ⟨b, off + i, none⟩ = some (.slice p.ao p.n p.c) ∧ Bytes w p.ao p.n p.bs ∧ p.n ≤ 140737488355000 ∧ (p.ao = none → p.c = 0)
theorem LeavesAt.below {w w' : World} {B b off : Nat} {ls : List LV} (h : LeavesAt w b off ls) (hb : Below B w w') (hB : w.heap.size ≤ B) : LeavesAt w' b off ls := fun i p hp => by
  obtain ⟨h1, h2, h3⟩ := h i p hp
  exact ⟨bel_cell2 hb hB h1, bytes_kept h2 hb hB, h3⟩
/-- A slice of leaves. -/
def LeavesV (w : World) (ao : Option Addr) (n c : Nat) (ls : List LV) : Prop := ls.length = n ∧ n ≤ c ∧ c ≤ 9223372036854775807 ∧ (0 < n → ∃ b off, ao = some ⟨b, off, none⟩ ∧ LeavesAt w b off ls)
theorem LeavesV.below {w w' : World} {B n c : Nat} {ao : Option Addr} {ls : List LV} (h : LeavesV w ao n c ls) (hb : Below B w w') (hB : w.heap.size ≤ B) : LeavesV w' ao n c ls :=
  ⟨h.1, h.2.1, h.2.2.1, fun hp => by obtain ⟨b, off, h1, h2⟩ := h.2.2.2 hp; exact ⟨b, off, h1, h2.below hb hB⟩⟩
def bytesL (ls : List LV) : List (List UInt8) := ls.map (·.bs)
theorem zi {a b : Nat} (h : a ≤ b) : (a : Int) ≤ (b : Int) := by omega
theorem zl {a b : Nat} (h : a < b) : (a : Int) < (b : Int) := by omega
set_option maxHeartbeats 1000000 in
set_option maxRecDepth 100000 in
theorem of_span (a m : Nat) (b off n c : Nat) (w : World) (h1 : a < m) (h2 : m ≤ n) (hnc : n ≤ c) :
    Calls Tryd.prog 59 #[sv a m, .slice (some ⟨b, off, none⟩) n c] w fun e w' => e = .returned (.slice (some ⟨b, off + a, none⟩) (m - a) (c - a)) ∧ Below w.heap.size w w' := by
  have y1 := zi (Nat.le_of_lt h1)
  have y2 := zi (Nat.le_trans h2 hnc)
  have y3 := zl (Nat.lt_of_lt_of_le h1 (Nat.le_trans h2 hnc))
  unfold sv
  clear h1 h2 hnc
  go_enter Tryd.func59, Tryd.ntmps59
  go_wp2
  go_ret
  exact ⟨rfl, bel_alloc _ _⟩
/-! ### roots -/
/-- The root of leaves (fuel: their number). -/
def rootF (z : Int) : Nat → List (List UInt8) → List UInt8
  | 0, _ => keptZ z []
  | f + 1, ls =>
    match ls with
    | [] => keptZ z []
    | [x] => leafD z x
    | _ => nodeD z (rootF z f (ls.take (halfN ls.length))) (rootF z f (ls.drop (halfN ls.length)))
def rootD (z : Int) (ls : List (List UInt8)) : List UInt8 := rootF z ls.length ls
end Go.Proofs.YtaebpnednhkfhaaDoor
