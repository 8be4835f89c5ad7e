/-
  noWrites, behind, Chain, New, Clear of a mem. Chain, New, Clear, Get of a mem. Get of a mem. Range and All of a mem.
-/
import Derived.Test.YtaamekkbgaeafaaDoorPartH
import Derived.Lib.MinMax
namespace Go.Proofs.YtaamekkbgaeafaaDoor
open Go.RowKit
set_option linter.unusedSectionVars false
variable [Inhabited E]
theorem sm_cells (l : List UInt8) : Sm.cellsOf l = cellsOf l := rfl
/-- The table of the sum's constants lies in block 1. -/
def KK (w : World) : Prop := Sm.WW w 1 Sm.ks ∧ 1 < w.heap.size
theorem KK.below {w w' : World} {B : Nat} (h : KK w) (hb : Below B w w') (hB : 1 < B) : KK w' := ⟨h.1.below hb hB, Nat.lt_of_lt_of_le h.2 hb.size⟩
theorem KK.only {own : Nat → Prop} {w w' : World} (h : KK w) (ho : Only own w w') (hn : ¬ own 1) : KK w' := by
  refine ⟨fun t ht => ?_, Nat.lt_of_lt_of_le h.2 ho.size⟩
  rw [← h.1 t ht]
  unfold World.cell?
  rw [ho.block 1 h.2 hn]
def linkB (ch : List UInt8) (e : E) : List UInt8 := Sm.shaB (2 :: (ch ++ bytesB e))
def noneB : List UInt8 := Sm.shaB []
theorem linkB_len (ch : List UInt8) (e : E) : (linkB ch e).length = 32 := Sm.shaB_length _
theorem noneB_len : noneB.length = 32 := Sm.shaB_length _
theorem size42 : (Tryd.prog.info? 42).map (·.size) = some 32 := by kernel_rfl
theorem dig_one (l : List UInt8) : (cellsOf l).toArray.all (·.oneCell') = true := all_oneCell_toArray (cellsOf_one l)
set_option maxRecDepth 100000 in
set_option maxHeartbeats 1000000 in
theorem noWrites_any (w : World) (hK : KK w) : Calls Tryd.prog 29 #[] w fun e w' => e = .returned (.agg (cellsOf noneB).toArray) ∧ Below w.heap.size w w' := by
  obtain ⟨D, HD⟩ : ∃ D, Hid (D = (cellsOf noneB).toArray) := ⟨_, rfl⟩
  have hDs : D.size = 32 := by rw [HD.out, List.size_toArray, cellsOf_length, noneB_len]
  have hD1 : D.all (·.oneCell') = true := by rw [HD.out]; exact dig_one _
  rw [← HD.out]
  go_enter Tryd.func29, Tryd.ntmps29
  go_wp2_with fail
  obtain ⟨A, HA⟩ : ∃ A : Array Value, Hid (A = (cellsOf (List.replicate 32 0)).toArray) := ⟨_, rfl⟩
  have hA : A.size = 32 := by rw [HA.out]; rfl
  obtain ⟨W, hW⟩ : ∃ W, W = w.alloc (Obj.cells A 42) := ⟨_, rfl⟩
  have hk2 : KK W := by rw [hW]; exact hK.below (bel_alloc w _) hK.2
  refine (show Calls _ _ _ (w.alloc (Obj.cells (cellsOf (List.replicate 32 0)).toArray 42)) _ from ?_)
  rw [← HA.out, ← hW]
  refine (Sm.of_any none 0 0 [] W (Sm.bytes_nil W) (Nat.le_refl _) (by decide) (by decide) hk2.1 hk2.2).mono ?_
  rintro e w3 ⟨rfl, hb3⟩
  have hbF : Below w.heap.size w w3 := by rw [hW] at hb3; exact (bel_alloc w _).trans (hb3.mono (by simp))
  have hres3 : w3.heap[w.heap.size]? = some (.cells A 42) := by
    rw [hb3.block _ (by rw [hW]; simp), hW]; exact heap_alloc_new _ _
  rw [show (Sm.cellsOf (Sm.shaB [])).toArray = D from HD.out.symm]
  clear hb3 hW hk2 HD HA
  go_wp2_with (refine wpList_store_row rfl 42 (.tmp 0) (.tmp 1) rfl w.heap.size D rfl rfl 42 A hres3 ?hs2 ?ho hD1 ?_)
  case hs2 => rw [size42, hDs]
  case ho => rw [hA, hDs]
  refine bodyPost_ret (results_cell_row rfl _ _ w.heap.size 42 D (0, 0) _ rfl (setRow_heap _ _ _ _ _ _ hres3) Tryd.underlying42 rfl (by rw [size42, hDs])) rfl ?_
  exact ⟨rfl, below_setRow hbF (Nat.le_refl _) _⟩
theorem behind_frame (C : Array Value) (k v : ByteArray) (d : Bool) (q : Int) (w : World) (ch : List UInt8) (hC : C = (cellsOf ch).toArray) :
    Buf ((((w.alloc (Obj.cells C 42)).alloc (Obj.cells #[Value.string k, Value.string v, Value.bool d, Value.int IntKind.i64 q] 29)).alloc (Obj.cells #[Value.int IntKind.u8 0, Value.int IntKind.u8 0, Value.int IntKind.u8 0, Value.int IntKind.u8 0, Value.int IntKind.u8 0, Value.int IntKind.u8 0, Value.int IntKind.u8 0, Value.int IntKind.u8 0, Value.int IntKind.u8 0, Value.int IntKind.u8 0, Value.int IntKind.u8 0, Value.int IntKind.u8 0, Value.int IntKind.u8 0, Value.int IntKind.u8 0, Value.int IntKind.u8 0, Value.int IntKind.u8 0, Value.int IntKind.u8 0, Value.int IntKind.u8 0, Value.int IntKind.u8 0, Value.int IntKind.u8 0, Value.int IntKind.u8 0, Value.int IntKind.u8 0, Value.int IntKind.u8 0, Value.int IntKind.u8 0, Value.int IntKind.u8 0, Value.int IntKind.u8 0, Value.int IntKind.u8 0, Value.int IntKind.u8 0, Value.int IntKind.u8 0, Value.int IntKind.u8 0, Value.int IntKind.u8 0, Value.int IntKind.u8 0] 42)).alloc (Obj.cells #[Value.int IntKind.u8 2] 5)) (w.heap.size + 1 + 1 + 1) (.slice (some ⟨w.heap.size + 1 + 1 + 1, 0, none⟩) 1 1) [2] ∧
    (∀ j u, (cellsOf ch)[j]? = some u → ((((w.alloc (Obj.cells C 42)).alloc (Obj.cells #[Value.string k, Value.string v, Value.bool d, Value.int IntKind.i64 q] 29)).alloc (Obj.cells #[Value.int IntKind.u8 0, Value.int IntKind.u8 0, Value.int IntKind.u8 0, Value.int IntKind.u8 0, Value.int IntKind.u8 0, Value.int IntKind.u8 0, Value.int IntKind.u8 0, Value.int IntKind.u8 0, Value.int IntKind.u8 0, Value.int IntKind.u8 0, Value.int IntKind.u8 0, Value.int IntKind.u8 0, Value.int IntKind.u8 0, Value.int IntKind.u8 0, Value.int IntKind.u8 0, Value.int IntKind.u8 0, Value.int IntKind.u8 0, Value.int IntKind.u8 0, Value.int IntKind.u8 0, Value.int IntKind.u8 0, Value.int IntKind.u8 0, Value.int IntKind.u8 0, Value.int IntKind.u8 0, Value.int IntKind.u8 0, Value.int IntKind.u8 0, Value.int IntKind.u8 0, Value.int IntKind.u8 0, Value.int IntKind.u8 0, Value.int IntKind.u8 0, Value.int IntKind.u8 0, Value.int IntKind.u8 0, Value.int IntKind.u8 0] 42)).alloc (Obj.cells #[Value.int IntKind.u8 2] 5)).cell? ((⟨w.heap.size, 0, none⟩ : Addr).add j) = some u) ∧
    Below w.heap.size w ((((w.alloc (Obj.cells C 42)).alloc (Obj.cells #[Value.string k, Value.string v, Value.bool d, Value.int IntKind.i64 q] 29)).alloc (Obj.cells #[Value.int IntKind.u8 0, Value.int IntKind.u8 0, Value.int IntKind.u8 0, Value.int IntKind.u8 0, Value.int IntKind.u8 0, Value.int IntKind.u8 0, Value.int IntKind.u8 0, Value.int IntKind.u8 0, Value.int IntKind.u8 0, Value.int IntKind.u8 0, Value.int IntKind.u8 0, Value.int IntKind.u8 0, Value.int IntKind.u8 0, Value.int IntKind.u8 0, Value.int IntKind.u8 0, Value.int IntKind.u8 0, Value.int IntKind.u8 0, Value.int IntKind.u8 0, Value.int IntKind.u8 0, Value.int IntKind.u8 0, Value.int IntKind.u8 0, Value.int IntKind.u8 0, Value.int IntKind.u8 0, Value.int IntKind.u8 0, Value.int IntKind.u8 0, Value.int IntKind.u8 0, Value.int IntKind.u8 0, Value.int IntKind.u8 0, Value.int IntKind.u8 0, Value.int IntKind.u8 0, Value.int IntKind.u8 0, Value.int IntKind.u8 0] 42)).alloc (Obj.cells #[Value.int IntKind.u8 2] 5)) ∧ ((((w.alloc (Obj.cells C 42)).alloc (Obj.cells #[Value.string k, Value.string v, Value.bool d, Value.int IntKind.i64 q] 29)).alloc (Obj.cells #[Value.int IntKind.u8 0, Value.int IntKind.u8 0, Value.int IntKind.u8 0, Value.int IntKind.u8 0, Value.int IntKind.u8 0, Value.int IntKind.u8 0, Value.int IntKind.u8 0, Value.int IntKind.u8 0, Value.int IntKind.u8 0, Value.int IntKind.u8 0, Value.int IntKind.u8 0, Value.int IntKind.u8 0, Value.int IntKind.u8 0, Value.int IntKind.u8 0, Value.int IntKind.u8 0, Value.int IntKind.u8 0, Value.int IntKind.u8 0, Value.int IntKind.u8 0, Value.int IntKind.u8 0, Value.int IntKind.u8 0, Value.int IntKind.u8 0, Value.int IntKind.u8 0, Value.int IntKind.u8 0, Value.int IntKind.u8 0, Value.int IntKind.u8 0, Value.int IntKind.u8 0, Value.int IntKind.u8 0, Value.int IntKind.u8 0, Value.int IntKind.u8 0, Value.int IntKind.u8 0, Value.int IntKind.u8 0, Value.int IntKind.u8 0] 42)).alloc (Obj.cells #[Value.int IntKind.u8 2] 5)).heap.size = w.heap.size + 1 + 1 + 1 + 1 ∧ ((((w.alloc (Obj.cells C 42)).alloc (Obj.cells #[Value.string k, Value.string v, Value.bool d, Value.int IntKind.i64 q] 29)).alloc (Obj.cells #[Value.int IntKind.u8 0, Value.int IntKind.u8 0, Value.int IntKind.u8 0, Value.int IntKind.u8 0, Value.int IntKind.u8 0, Value.int IntKind.u8 0, Value.int IntKind.u8 0, Value.int IntKind.u8 0, Value.int IntKind.u8 0, Value.int IntKind.u8 0, Value.int IntKind.u8 0, Value.int IntKind.u8 0, Value.int IntKind.u8 0, Value.int IntKind.u8 0, Value.int IntKind.u8 0, Value.int IntKind.u8 0, Value.int IntKind.u8 0, Value.int IntKind.u8 0, Value.int IntKind.u8 0, Value.int IntKind.u8 0, Value.int IntKind.u8 0, Value.int IntKind.u8 0, Value.int IntKind.u8 0, Value.int IntKind.u8 0, Value.int IntKind.u8 0, Value.int IntKind.u8 0, Value.int IntKind.u8 0, Value.int IntKind.u8 0, Value.int IntKind.u8 0, Value.int IntKind.u8 0, Value.int IntKind.u8 0, Value.int IntKind.u8 0] 42)).alloc (Obj.cells #[Value.int IntKind.u8 2] 5)).heap[w.heap.size + 1]? = some (.cells #[Value.string k, Value.string v, Value.bool d, Value.int IntKind.i64 q] 29) ∧ ((((w.alloc (Obj.cells C 42)).alloc (Obj.cells #[Value.string k, Value.string v, Value.bool d, Value.int IntKind.i64 q] 29)).alloc (Obj.cells #[Value.int IntKind.u8 0, Value.int IntKind.u8 0, Value.int IntKind.u8 0, Value.int IntKind.u8 0, Value.int IntKind.u8 0, Value.int IntKind.u8 0, Value.int IntKind.u8 0, Value.int IntKind.u8 0, Value.int IntKind.u8 0, Value.int IntKind.u8 0, Value.int IntKind.u8 0, Value.int IntKind.u8 0, Value.int IntKind.u8 0, Value.int IntKind.u8 0, Value.int IntKind.u8 0, Value.int IntKind.u8 0, Value.int IntKind.u8 0, Value.int IntKind.u8 0, Value.int IntKind.u8 0, Value.int IntKind.u8 0, Value.int IntKind.u8 0, Value.int IntKind.u8 0, Value.int IntKind.u8 0, Value.int IntKind.u8 0, Value.int IntKind.u8 0, Value.int IntKind.u8 0, Value.int IntKind.u8 0, Value.int IntKind.u8 0, Value.int IntKind.u8 0, Value.int IntKind.u8 0, Value.int IntKind.u8 0, Value.int IntKind.u8 0] 42)).alloc (Obj.cells #[Value.int IntKind.u8 2] 5)).heap[w.heap.size + 1 + 1]? = some (.cells #[Value.int IntKind.u8 0, Value.int IntKind.u8 0, Value.int IntKind.u8 0, Value.int IntKind.u8 0, Value.int IntKind.u8 0, Value.int IntKind.u8 0, Value.int IntKind.u8 0, Value.int IntKind.u8 0, Value.int IntKind.u8 0, Value.int IntKind.u8 0, Value.int IntKind.u8 0, Value.int IntKind.u8 0, Value.int IntKind.u8 0, Value.int IntKind.u8 0, Value.int IntKind.u8 0, Value.int IntKind.u8 0, Value.int IntKind.u8 0, Value.int IntKind.u8 0, Value.int IntKind.u8 0, Value.int IntKind.u8 0, Value.int IntKind.u8 0, Value.int IntKind.u8 0, Value.int IntKind.u8 0, Value.int IntKind.u8 0, Value.int IntKind.u8 0, Value.int IntKind.u8 0, Value.int IntKind.u8 0, Value.int IntKind.u8 0, Value.int IntKind.u8 0, Value.int IntKind.u8 0, Value.int IntKind.u8 0, Value.int IntKind.u8 0] 42) := by
  have s1 : (w.alloc (Obj.cells C 42)).heap.size = w.heap.size + 1 := by simp
  have s2 : ((w.alloc (Obj.cells C 42)).alloc (Obj.cells #[Value.string k, Value.string v, Value.bool d, Value.int IntKind.i64 q] 29)).heap.size = w.heap.size + 1 + 1 := by simp
  have s3 : (((w.alloc (Obj.cells C 42)).alloc (Obj.cells #[Value.string k, Value.string v, Value.bool d, Value.int IntKind.i64 q] 29)).alloc (Obj.cells #[Value.int IntKind.u8 0, Value.int IntKind.u8 0, Value.int IntKind.u8 0, Value.int IntKind.u8 0, Value.int IntKind.u8 0, Value.int IntKind.u8 0, Value.int IntKind.u8 0, Value.int IntKind.u8 0, Value.int IntKind.u8 0, Value.int IntKind.u8 0, Value.int IntKind.u8 0, Value.int IntKind.u8 0, Value.int IntKind.u8 0, Value.int IntKind.u8 0, Value.int IntKind.u8 0, Value.int IntKind.u8 0, Value.int IntKind.u8 0, Value.int IntKind.u8 0, Value.int IntKind.u8 0, Value.int IntKind.u8 0, Value.int IntKind.u8 0, Value.int IntKind.u8 0, Value.int IntKind.u8 0, Value.int IntKind.u8 0, Value.int IntKind.u8 0, Value.int IntKind.u8 0, Value.int IntKind.u8 0, Value.int IntKind.u8 0, Value.int IntKind.u8 0, Value.int IntKind.u8 0, Value.int IntKind.u8 0, Value.int IntKind.u8 0] 42)).heap.size = w.heap.size + 1 + 1 + 1 := by simp
  have hb0 := bel_alloc w (Obj.cells C 42)
  have hb1 := bel_alloc (w.alloc (Obj.cells C 42)) (Obj.cells #[Value.string k, Value.string v, Value.bool d, Value.int IntKind.i64 q] 29)
  have hb2 := bel_alloc ((w.alloc (Obj.cells C 42)).alloc (Obj.cells #[Value.string k, Value.string v, Value.bool d, Value.int IntKind.i64 q] 29)) (Obj.cells #[Value.int IntKind.u8 0, Value.int IntKind.u8 0, Value.int IntKind.u8 0, Value.int IntKind.u8 0, Value.int IntKind.u8 0, Value.int IntKind.u8 0, Value.int IntKind.u8 0, Value.int IntKind.u8 0, Value.int IntKind.u8 0, Value.int IntKind.u8 0, Value.int IntKind.u8 0, Value.int IntKind.u8 0, Value.int IntKind.u8 0, Value.int IntKind.u8 0, Value.int IntKind.u8 0, Value.int IntKind.u8 0, Value.int IntKind.u8 0, Value.int IntKind.u8 0, Value.int IntKind.u8 0, Value.int IntKind.u8 0, Value.int IntKind.u8 0, Value.int IntKind.u8 0, Value.int IntKind.u8 0, Value.int IntKind.u8 0, Value.int IntKind.u8 0, Value.int IntKind.u8 0, Value.int IntKind.u8 0, Value.int IntKind.u8 0, Value.int IntKind.u8 0, Value.int IntKind.u8 0, Value.int IntKind.u8 0, Value.int IntKind.u8 0] 42)
  have hb3 := bel_alloc (((w.alloc (Obj.cells C 42)).alloc (Obj.cells #[Value.string k, Value.string v, Value.bool d, Value.int IntKind.i64 q] 29)).alloc (Obj.cells #[Value.int IntKind.u8 0, Value.int IntKind.u8 0, Value.int IntKind.u8 0, Value.int IntKind.u8 0, Value.int IntKind.u8 0, Value.int IntKind.u8 0, Value.int IntKind.u8 0, Value.int IntKind.u8 0, Value.int IntKind.u8 0, Value.int IntKind.u8 0, Value.int IntKind.u8 0, Value.int IntKind.u8 0, Value.int IntKind.u8 0, Value.int IntKind.u8 0, Value.int IntKind.u8 0, Value.int IntKind.u8 0, Value.int IntKind.u8 0, Value.int IntKind.u8 0, Value.int IntKind.u8 0, Value.int IntKind.u8 0, Value.int IntKind.u8 0, Value.int IntKind.u8 0, Value.int IntKind.u8 0, Value.int IntKind.u8 0, Value.int IntKind.u8 0, Value.int IntKind.u8 0, Value.int IntKind.u8 0, Value.int IntKind.u8 0, Value.int IntKind.u8 0, Value.int IntKind.u8 0, Value.int IntKind.u8 0, Value.int IntKind.u8 0] 42)) (Obj.cells #[Value.int IntKind.u8 2] 5)
  have n0 := heap_alloc_new w (Obj.cells C 42)
  have n1 := heap_alloc_new (w.alloc (Obj.cells C 42)) (Obj.cells #[Value.string k, Value.string v, Value.bool d, Value.int IntKind.i64 q] 29)
  have n2 := heap_alloc_new ((w.alloc (Obj.cells C 42)).alloc (Obj.cells #[Value.string k, Value.string v, Value.bool d, Value.int IntKind.i64 q] 29)) (Obj.cells #[Value.int IntKind.u8 0, Value.int IntKind.u8 0, Value.int IntKind.u8 0, Value.int IntKind.u8 0, Value.int IntKind.u8 0, Value.int IntKind.u8 0, Value.int IntKind.u8 0, Value.int IntKind.u8 0, Value.int IntKind.u8 0, Value.int IntKind.u8 0, Value.int IntKind.u8 0, Value.int IntKind.u8 0, Value.int IntKind.u8 0, Value.int IntKind.u8 0, Value.int IntKind.u8 0, Value.int IntKind.u8 0, Value.int IntKind.u8 0, Value.int IntKind.u8 0, Value.int IntKind.u8 0, Value.int IntKind.u8 0, Value.int IntKind.u8 0, Value.int IntKind.u8 0, Value.int IntKind.u8 0, Value.int IntKind.u8 0, Value.int IntKind.u8 0, Value.int IntKind.u8 0, Value.int IntKind.u8 0, Value.int IntKind.u8 0, Value.int IntKind.u8 0, Value.int IntKind.u8 0, Value.int IntKind.u8 0, Value.int IntKind.u8 0] 42)
  have n3 := heap_alloc_new (((w.alloc (Obj.cells C 42)).alloc (Obj.cells #[Value.string k, Value.string v, Value.bool d, Value.int IntKind.i64 q] 29)).alloc (Obj.cells #[Value.int IntKind.u8 0, Value.int IntKind.u8 0, Value.int IntKind.u8 0, Value.int IntKind.u8 0, Value.int IntKind.u8 0, Value.int IntKind.u8 0, Value.int IntKind.u8 0, Value.int IntKind.u8 0, Value.int IntKind.u8 0, Value.int IntKind.u8 0, Value.int IntKind.u8 0, Value.int IntKind.u8 0, Value.int IntKind.u8 0, Value.int IntKind.u8 0, Value.int IntKind.u8 0, Value.int IntKind.u8 0, Value.int IntKind.u8 0, Value.int IntKind.u8 0, Value.int IntKind.u8 0, Value.int IntKind.u8 0, Value.int IntKind.u8 0, Value.int IntKind.u8 0, Value.int IntKind.u8 0, Value.int IntKind.u8 0, Value.int IntKind.u8 0, Value.int IntKind.u8 0, Value.int IntKind.u8 0, Value.int IntKind.u8 0, Value.int IntKind.u8 0, Value.int IntKind.u8 0, Value.int IntKind.u8 0, Value.int IntKind.u8 0] 42)) (Obj.cells #[Value.int IntKind.u8 2] 5)
  rw [s1] at hb1 n1
  rw [s2] at hb2 n2
  rw [s3] at hb3 n3
  have m0 := (hb3.block _ (by omega)).trans ((hb2.block _ (by omega)).trans ((hb1.block _ (by omega)).trans n0))
  have m1 := (hb3.block _ (by omega)).trans ((hb2.block _ (by omega)).trans n1)
  have m2 := (hb3.block _ (by omega)).trans n2
  refine ⟨.inl ⟨_, rfl, rfl, fun i c hi => ⟨_, rfl, ?_⟩⟩, fun j u hu => ?_, hb0.trans ((hb1.mono (by omega)).trans ((hb2.mono (by omega)).trans (hb3.mono (by omega)))), by rw [World.size_alloc, s3], m1, m2⟩
  · rw [Addr.add_lit, Nat.zero_add, cell_of_row _ _ _ _ _ _ n3]
    cases i with
    | zero => simp at hi; subst hi; rfl
    | succ i => simp at hi
  · rw [Addr.add_lit, Nat.zero_add, cell_of_row _ _ _ _ _ _ m0, hC]; simpa using hu
theorem behind_mid (w : World) (k v : ByteArray) (d : Bool) (q : Int) (Z : Array Value) {W w1 : World} (hb : Below w.heap.size w W) (hs : W.heap.size = w.heap.size + 1 + 1 + 1 + 1)
    (h1 : W.heap[w.heap.size + 1]? = some (.cells #[Value.string k, Value.string v, Value.bool d, Value.int IntKind.i64 q] 29)) (h2 : W.heap[w.heap.size + 1 + 1]? = some (.cells Z 42)) (hbel1 : Below (w.heap.size + 1 + 1 + 1) W w1) :
    Below w.heap.size w w1 ∧ w.heap.size + 1 + 1 + 1 ≤ w1.heap.size ∧ w1.cell? ⟨w.heap.size + 1, 0, none⟩ = some (.string k) ∧ w1.cell? ⟨w.heap.size + 1, 1, none⟩ = some (.string v) ∧ w1.cell? ⟨w.heap.size + 1, 2, none⟩ = some (.bool d) ∧ w1.cell? ⟨w.heap.size + 1, 3, none⟩ = some (.int .i64 q) ∧
    Hid (w1.heap[w.heap.size + 1 + 1]? = some (.cells Z 42)) := by
  have e1 := (hbel1.block (w.heap.size + 1) (by omega)).trans h1
  have e2 := (hbel1.block (w.heap.size + 1 + 1) (by omega)).trans h2
  refine ⟨hb.trans (hbel1.mono (by omega)), ?_, (cell_of_row _ _ _ _ _ _ e1).trans rfl, (cell_of_row _ _ _ _ _ _ e1).trans rfl, (cell_of_row _ _ _ _ _ _ e1).trans rfl, (cell_of_row _ _ _ _ _ _ e1).trans rfl, e2⟩
  have := hbel1.size
  omega
theorem bytesB_le (e : E) : (bytesB e).length ≤ 2000 := by
  cases hr : rightB e with
  | false => rw [bytesB, hr]; simp
  | true =>
    obtain ⟨h1, h2, qn, h3, h4, h5⟩ := right_parts hr
    have k1 := putB_le (strB e.key).length
    have k2 := putB_le (strB e.value).length
    have k3 := putB_le e.seq.toNat
    have k4 := strB_length e.key
    have k5 := strB_length e.value
    rw [bytesB, hr]
    simp only [if_true, headB, textB]
    split <;> simp only [List.length_cons, List.length_append] <;> omega
set_option maxRecDepth 100000 in
set_option maxHeartbeats 1000000 in
theorem behind_any (ch : List UInt8) (k v : ByteArray) (d : Bool) (q : Int) (w : World) (hK : KK w) (hl : ch.length = 32) (hk : k.size ≤ 9223372036854775807) (hv : v.size ≤ 9223372036854775807) :
    Calls Tryd.prog 33 #[.agg (cellsOf ch).toArray, .agg #[.string k, .string v, .bool d, .int .i64 q]] w fun e w' => e = .returned (.agg (cellsOf (linkB ch ⟨k, v, d, q⟩)).toArray) ∧ Below w.heap.size w w' := by
  obtain ⟨D, HD⟩ : ∃ D, Hid (D = (cellsOf (linkB ch ⟨k, v, d, q⟩)).toArray) := ⟨_, rfl⟩
  have hDs : D.size = 32 := by rw [HD.out, List.size_toArray, cellsOf_length, linkB_len]
  have hD1 : D.all (·.oneCell') = true := by rw [HD.out]; exact dig_one _
  rw [← HD.out]
  obtain ⟨C, HC⟩ : ∃ C, Hid (C = (cellsOf ch).toArray) := ⟨_, rfl⟩
  have hCs : C.size = 32 := by rw [HC.out, List.size_toArray, cellsOf_length, hl]
  rw [← HC.out]
  have HL : Hid (ch.length = 32) := hl
  have HF : Hid _ := behind_frame C k v d q w ch HC.out
  have h63 : w.heap.size + 1 + 1 + 1 ≤ (((((w.alloc (Obj.cells C 42)).alloc (Obj.cells #[Value.string k, Value.string v, Value.bool d, Value.int IntKind.i64 q] 29)).alloc (Obj.cells #[Value.int IntKind.u8 0, Value.int IntKind.u8 0, Value.int IntKind.u8 0, Value.int IntKind.u8 0, Value.int IntKind.u8 0, Value.int IntKind.u8 0, Value.int IntKind.u8 0, Value.int IntKind.u8 0, Value.int IntKind.u8 0, Value.int IntKind.u8 0, Value.int IntKind.u8 0, Value.int IntKind.u8 0, Value.int IntKind.u8 0, Value.int IntKind.u8 0, Value.int IntKind.u8 0, Value.int IntKind.u8 0, Value.int IntKind.u8 0, Value.int IntKind.u8 0, Value.int IntKind.u8 0, Value.int IntKind.u8 0, Value.int IntKind.u8 0, Value.int IntKind.u8 0, Value.int IntKind.u8 0, Value.int IntKind.u8 0, Value.int IntKind.u8 0, Value.int IntKind.u8 0, Value.int IntKind.u8 0, Value.int IntKind.u8 0, Value.int IntKind.u8 0, Value.int IntKind.u8 0, Value.int IntKind.u8 0, Value.int IntKind.u8 0] 42)).alloc (Obj.cells #[Value.int IntKind.u8 2] 5))).heap.size := by rw [HF.out.2.2.2.1]; omega
  have HS : Hid (w.heap.size + 1 + 1 + 1 ≤ (((((w.alloc (Obj.cells C 42)).alloc (Obj.cells #[Value.string k, Value.string v, Value.bool d, Value.int IntKind.i64 q] 29)).alloc (Obj.cells #[Value.int IntKind.u8 0, Value.int IntKind.u8 0, Value.int IntKind.u8 0, Value.int IntKind.u8 0, Value.int IntKind.u8 0, Value.int IntKind.u8 0, Value.int IntKind.u8 0, Value.int IntKind.u8 0, Value.int IntKind.u8 0, Value.int IntKind.u8 0, Value.int IntKind.u8 0, Value.int IntKind.u8 0, Value.int IntKind.u8 0, Value.int IntKind.u8 0, Value.int IntKind.u8 0, Value.int IntKind.u8 0, Value.int IntKind.u8 0, Value.int IntKind.u8 0, Value.int IntKind.u8 0, Value.int IntKind.u8 0, Value.int IntKind.u8 0, Value.int IntKind.u8 0, Value.int IntKind.u8 0, Value.int IntKind.u8 0, Value.int IntKind.u8 0, Value.int IntKind.u8 0, Value.int IntKind.u8 0, Value.int IntKind.u8 0, Value.int IntKind.u8 0, Value.int IntKind.u8 0, Value.int IntKind.u8 0, Value.int IntKind.u8 0] 42)).alloc (Obj.cells #[Value.int IntKind.u8 2] 5))).heap.size) := h63
  have HKK : Hid (KK w) := hK
  clear hl h63 hK
  go_enter Tryd.func33, Tryd.ntmps33
  obtain ⟨Z, HZ⟩ : ∃ Z : Array Value, Hid (Z = #[Value.int IntKind.u8 0, Value.int IntKind.u8 0, Value.int IntKind.u8 0, Value.int IntKind.u8 0, Value.int IntKind.u8 0, Value.int IntKind.u8 0, Value.int IntKind.u8 0, Value.int IntKind.u8 0, Value.int IntKind.u8 0, Value.int IntKind.u8 0, Value.int IntKind.u8 0, Value.int IntKind.u8 0, Value.int IntKind.u8 0, Value.int IntKind.u8 0, Value.int IntKind.u8 0, Value.int IntKind.u8 0, Value.int IntKind.u8 0, Value.int IntKind.u8 0, Value.int IntKind.u8 0, Value.int IntKind.u8 0, Value.int IntKind.u8 0, Value.int IntKind.u8 0, Value.int IntKind.u8 0, Value.int IntKind.u8 0, Value.int IntKind.u8 0, Value.int IntKind.u8 0, Value.int IntKind.u8 0, Value.int IntKind.u8 0, Value.int IntKind.u8 0, Value.int IntKind.u8 0, Value.int IntKind.u8 0, Value.int IntKind.u8 0]) := ⟨_, rfl⟩
  have hZ : Z.size = 32 := by rw [HZ.out]; rfl
  obtain ⟨bs, HBS⟩ : ∃ bs, Hid (bytesB ⟨k, v, d, q⟩ = bs) := ⟨_, rfl⟩
  have hbl : bs.length ≤ 2000 := by rw [← HBS.out]; exact bytesB_le _
  go_wp2_with (at_builtin; refine wpList_append_buf _ rfl (.tmp 6) (.tmp 7) rfl (w.heap.size + 1 + 1 + 1) _ [2] rfl HF.out.1 HS.out ⟨w.heap.size, 0, none⟩ 32 32 ch rfl HL.out (by decide) HF.out.2.1 (by decide) ?_; intro v1 w1 how1 hbel1; obtain ⟨hbw, hsz, f0, f1, f2, f3, HE2⟩ := behind_mid w k v d q Z HF.out.2.2.1 HF.out.2.2.2.1 HF.out.2.2.2.2.1 (HF.out.2.2.2.2.2.trans (by rw [HZ.out])) hbel1; have HO1 : Hid (w1.ownsRow (w.heap.size + 1 + 1 + 1) 5 1 v1 ([2] ++ ch).length (cellsOf ([2] ++ ch))) := how1; clear how1 hbel1)
  refine (bytes_any k v d q w1 hk hv).mono ?_
  rintro e w2 ⟨v2, rfl, how2, hbel2⟩
  clear f0 f1 f2 f3 HF HS
  rw [HBS.out] at how2
  have HO2 : Hid (w2.ownsRow (w.heap.size + 1 + 1 + 1) 5 1 v1 ([2] ++ ch).length (cellsOf ([2] ++ ch))) := own_below HO1.out hbel2 (Nat.le_refl _)
  have hbw2 : Below w.heap.size w w2 := hbw.trans (hbel2.mono (by omega))
  have HE3 : Hid (w2.heap[w.heap.size + 1 + 1]? = some (.cells Z 42)) := (hbel2.block _ (by omega)).trans HE2.out
  have hsz2 : w.heap.size + 1 + 1 + 1 ≤ w2.heap.size := Nat.le_trans hsz hbel2.size
  obtain ⟨ao, cap, rfl, hby, hn0, hnc, hcap, -, -⟩ := own_bytes how2
  have HBY : Hid (Bytes w2 ao bs.length bs) := hby
  have HN0 : Hid (ao = none → cap = 0) := hn0
  have HSZ2 : Hid (w.heap.size + 1 + 1 + 1 ≤ w2.heap.size) := hsz2
  have HLL : Hid (([2] ++ ch).length + bs.length ≤ 140737488355328) := by show _ ≤ _; simp [HL.out]; omega
  clear how2 hbel2 hbw hsz HE2 HO1 hby hn0 hnc hcap hsz2 hbl
  go_wp2_with (at_builtin; refine wpList_append_read _ rfl (.tmp 9) (.tmp 11) rfl (w.heap.size + 1 + 1 + 1) _ _ ([2] ++ ch) rfl HO2.out HSZ2.out ao bs.length cap bs rfl HBY.out HN0.out HLL.out ?_; intro ao3 n3 c3 w3 hby3 hnc3 hc3 hle3 hbel3)
  have hbw3 : Below w.heap.size w w3 := hbw2.trans (hbel3.mono (by omega))
  have HE4 : Hid (w3.heap[w.heap.size + 1 + 1]? = some (.cells Z 42)) := (hbel3.block _ (by omega)).trans HE3.out
  have hk3 : KK w3 := HKK.out.below hbw3 HKK.out.2
  have hlo : w.heap.size + 1 + 1 + 1 ≤ w3.heap.size := Nat.le_trans HSZ2.out hbel3.size
  refine (Sm.of_any ao3 n3 c3 ([2] ++ ch ++ bs) w3 hby3 hnc3 hc3 (by have := HLL.out; omega) hk3.1 hk3.2).mono ?_
  rintro e w4 ⟨rfl, hbel4⟩
  rw [show (Sm.cellsOf (Sm.shaB ([2] ++ ch ++ bs))).toArray = D by rw [HD.out, ← HBS.out]; rfl]
  have hbw4 : Below w.heap.size w w4 := hbw3.trans (hbel4.mono (by omega))
  have hres4 := (hbel4.block _ (by omega)).trans HE4.out
  clear hbel4 hbw3 HE4 hk3 hby3 hnc3 hc3 hle3 hbel3 hbw2 HE3 HO2 HBY HN0 HLL HD HBS HC
  go_wp2_with (refine wpList_store_row rfl 42 (.tmp 4) (.tmp 13) rfl (w.heap.size + 1 + 1) D rfl rfl 42 Z hres4 ?hs2 ?ho hD1 ?_)
  case hs2 => rw [size42, hDs]
  case ho => rw [hZ, hDs]
  refine bodyPost_ret (results_cell_row rfl _ _ (w.heap.size + 1 + 1) 42 D (0, 0) _ rfl (setRow_heap _ _ _ _ _ _ hres4) Tryd.underlying42 rfl (by rw [size42, hDs])) rfl ?_
  exact ⟨rfl, below_setRow hbw4 (by omega) _⟩
end Go.Proofs.YtaamekkbgaeafaaDoor
namespace Go.Proofs.YtaamekkbgaeafaaDoor
open Go.RowKit
set_option linter.unusedSectionVars false
variable [Inhabited E]
theorem MemIn.range {own : Nat → Prop} {w : World} {g : Nat} {A : Mm} {v : Value} (h : MemIn own w g A v) : w.rangeAt g 2 (cellsOf A.ch) := fun j u hu => by
  rw [cell_of_row _ _ _ _ _ _ h.cells, memC, Nat.add_comm 2 j]
  simpa using hu
set_option maxRecDepth 100000 in
set_option maxHeartbeats 1000000 in
theorem chain_any (own : Nat → Prop) (g : Nat) (A : Mm) (w : World) (h : MemAt own w g A) :
    Calls Tryd.prog 23 #[.pointer (some ⟨g, 0, none⟩)] w fun e w' => e = .returned (.agg (cellsOf A.ch).toArray) ∧ Below w.heap.size w w' := by
  obtain ⟨D, HD⟩ : ∃ D, Hid (D = (cellsOf A.ch).toArray) := ⟨_, rfl⟩
  have hDs : D.size = 32 := by rw [HD.out, List.size_toArray, cellsOf_length, h.1.chl]
  have hD1 : D.all (·.oneCell') = true := by rw [HD.out]; exact dig_one _
  rw [← HD.out]
  obtain ⟨Z, HZ⟩ : ∃ Z : Array Value, Hid (Z = #[Value.int IntKind.u8 0, Value.int IntKind.u8 0, Value.int IntKind.u8 0, Value.int IntKind.u8 0, Value.int IntKind.u8 0, Value.int IntKind.u8 0, Value.int IntKind.u8 0, Value.int IntKind.u8 0, Value.int IntKind.u8 0, Value.int IntKind.u8 0, Value.int IntKind.u8 0, Value.int IntKind.u8 0, Value.int IntKind.u8 0, Value.int IntKind.u8 0, Value.int IntKind.u8 0, Value.int IntKind.u8 0, Value.int IntKind.u8 0, Value.int IntKind.u8 0, Value.int IntKind.u8 0, Value.int IntKind.u8 0, Value.int IntKind.u8 0, Value.int IntKind.u8 0, Value.int IntKind.u8 0, Value.int IntKind.u8 0, Value.int IntKind.u8 0, Value.int IntKind.u8 0, Value.int IntKind.u8 0, Value.int IntKind.u8 0, Value.int IntKind.u8 0, Value.int IntKind.u8 0, Value.int IntKind.u8 0, Value.int IntKind.u8 0]) := ⟨_, rfl⟩
  have hZ : Z.size = 32 := by rw [HZ.out]; rfl
  obtain ⟨wf, v, hM⟩ := (h.grown (bel_alloc w (.cells #[Value.int IntKind.u8 0, Value.int IntKind.u8 0, Value.int IntKind.u8 0, Value.int IntKind.u8 0, Value.int IntKind.u8 0, Value.int IntKind.u8 0, Value.int IntKind.u8 0, Value.int IntKind.u8 0, Value.int IntKind.u8 0, Value.int IntKind.u8 0, Value.int IntKind.u8 0, Value.int IntKind.u8 0, Value.int IntKind.u8 0, Value.int IntKind.u8 0, Value.int IntKind.u8 0, Value.int IntKind.u8 0, Value.int IntKind.u8 0, Value.int IntKind.u8 0, Value.int IntKind.u8 0, Value.int IntKind.u8 0, Value.int IntKind.u8 0, Value.int IntKind.u8 0, Value.int IntKind.u8 0, Value.int IntKind.u8 0, Value.int IntKind.u8 0, Value.int IntKind.u8 0, Value.int IntKind.u8 0, Value.int IntKind.u8 0, Value.int IntKind.u8 0, Value.int IntKind.u8 0, Value.int IntKind.u8 0, Value.int IntKind.u8 0] 42)))
  have HR : Hid ((w.alloc (.cells #[Value.int IntKind.u8 0, Value.int IntKind.u8 0, Value.int IntKind.u8 0, Value.int IntKind.u8 0, Value.int IntKind.u8 0, Value.int IntKind.u8 0, Value.int IntKind.u8 0, Value.int IntKind.u8 0, Value.int IntKind.u8 0, Value.int IntKind.u8 0, Value.int IntKind.u8 0, Value.int IntKind.u8 0, Value.int IntKind.u8 0, Value.int IntKind.u8 0, Value.int IntKind.u8 0, Value.int IntKind.u8 0, Value.int IntKind.u8 0, Value.int IntKind.u8 0, Value.int IntKind.u8 0, Value.int IntKind.u8 0, Value.int IntKind.u8 0, Value.int IntKind.u8 0, Value.int IntKind.u8 0, Value.int IntKind.u8 0, Value.int IntKind.u8 0, Value.int IntKind.u8 0, Value.int IntKind.u8 0, Value.int IntKind.u8 0, Value.int IntKind.u8 0, Value.int IntKind.u8 0, Value.int IntKind.u8 0, Value.int IntKind.u8 0] 42)).rangeAt g 2 D.toList) := by show World.rangeAt _ _ _ _; rw [HD.out]; exact hM.range
  have hgl := h.lt
  have hZr : (w.alloc (.cells #[Value.int IntKind.u8 0, Value.int IntKind.u8 0, Value.int IntKind.u8 0, Value.int IntKind.u8 0, Value.int IntKind.u8 0, Value.int IntKind.u8 0, Value.int IntKind.u8 0, Value.int IntKind.u8 0, Value.int IntKind.u8 0, Value.int IntKind.u8 0, Value.int IntKind.u8 0, Value.int IntKind.u8 0, Value.int IntKind.u8 0, Value.int IntKind.u8 0, Value.int IntKind.u8 0, Value.int IntKind.u8 0, Value.int IntKind.u8 0, Value.int IntKind.u8 0, Value.int IntKind.u8 0, Value.int IntKind.u8 0, Value.int IntKind.u8 0, Value.int IntKind.u8 0, Value.int IntKind.u8 0, Value.int IntKind.u8 0, Value.int IntKind.u8 0, Value.int IntKind.u8 0, Value.int IntKind.u8 0, Value.int IntKind.u8 0, Value.int IntKind.u8 0, Value.int IntKind.u8 0, Value.int IntKind.u8 0, Value.int IntKind.u8 0] 42)).heap[w.heap.size]? = some (.cells Z 42) := by rw [HZ.out]; exact heap_alloc_new _ _
  have HZR : Hid ((w.alloc (.cells #[Value.int IntKind.u8 0, Value.int IntKind.u8 0, Value.int IntKind.u8 0, Value.int IntKind.u8 0, Value.int IntKind.u8 0, Value.int IntKind.u8 0, Value.int IntKind.u8 0, Value.int IntKind.u8 0, Value.int IntKind.u8 0, Value.int IntKind.u8 0, Value.int IntKind.u8 0, Value.int IntKind.u8 0, Value.int IntKind.u8 0, Value.int IntKind.u8 0, Value.int IntKind.u8 0, Value.int IntKind.u8 0, Value.int IntKind.u8 0, Value.int IntKind.u8 0, Value.int IntKind.u8 0, Value.int IntKind.u8 0, Value.int IntKind.u8 0, Value.int IntKind.u8 0, Value.int IntKind.u8 0, Value.int IntKind.u8 0, Value.int IntKind.u8 0, Value.int IntKind.u8 0, Value.int IntKind.u8 0, Value.int IntKind.u8 0, Value.int IntKind.u8 0, Value.int IntKind.u8 0, Value.int IntKind.u8 0, Value.int IntKind.u8 0] 42)).heap[w.heap.size]? = some (.cells Z 42)) := hZr
  clear hM wf h hZr
  go_enter Tryd.func23, Tryd.ntmps23
  go_wp2_with (first | (refine wpList_load_mid rfl 42 (.tmp 5) rfl g 2 rfl D.toList _ HR.out Tryd.underlying42 rfl ?hsz ?_) | (refine wpList_store_row rfl 42 (.tmp 2) (.tmp 6) rfl w.heap.size D rfl rfl 42 Z HZR.out ?hs2 ?ho hD1 ?_))
  case hsz => rw [size42]; simp [hDs]
  case hs2 => rw [size42, hDs]
  case ho => rw [hZ, hDs]
  refine bodyPost_ret (results_cell_row rfl _ _ w.heap.size 42 D (0, 0) _ rfl (setRow_heap _ _ _ _ _ _ HZR.out) Tryd.underlying42 rfl (by rw [size42, hDs])) rfl ?_
  exact ⟨rfl, below_setRow (bel_alloc w _) (Nat.le_refl _) _⟩
theorem built57v (x0 x1 x2 x3 x4 x5 x6 x7 x8 x9 x10 x11 x12 x13 x14 x15 x16 x17 x18 x19 x20 x21 x22 x23 x24 x25 x26 x27 x28 x29 x30 x31 : UInt8) : Tryd.prog.built 57 [(2, .agg (cellsOf [x0, x1, x2, x3, x4, x5, x6, x7, x8, x9, x10, x11, x12, x13, x14, x15, x16, x17, x18, x19, x20, x21, x22, x23, x24, x25, x26, x27, x28, x29, x30, x31]).toArray)] = some (memC (.slice none 0 0) 0 [x0, x1, x2, x3, x4, x5, x6, x7, x8, x9, x10, x11, x12, x13, x14, x15, x16, x17, x18, x19, x20, x21, x22, x23, x24, x25, x26, x27, x28, x29, x30, x31]) := by kernel_rfl
theorem built57 : (d : List UInt8) → d.length = 32 → Tryd.prog.built 57 [(2, .agg (cellsOf d).toArray)] = some (memC (.slice none 0 0) 0 d)
  | [x0, x1, x2, x3, x4, x5, x6, x7, x8, x9, x10, x11, x12, x13, x14, x15, x16, x17, x18, x19, x20, x21, x22, x23, x24, x25, x26, x27, x28, x29, x30, x31], _ => built57v x0 x1 x2 x3 x4 x5 x6 x7 x8 x9 x10 x11 x12 x13 x14 x15 x16 x17 x18 x19 x20 x21 x22 x23 x24 x25 x26 x27 x28 x29 x30 x31
def mm0 : Mm := ⟨[], 0, noneB⟩
theorem mm0_wf : mm0.wf := ⟨List.Pairwise.nil, by decide, noneB_len, (fun x hx => by cases hx), (fun x hx => by cases hx)⟩
set_option maxRecDepth 100000 in
set_option maxHeartbeats 1000000 in
theorem new_mem (w : World) (hK : KK w) :
    Calls Tryd.prog 10 #[] w fun e w' => ∃ g, e = .returned (.pointer (some ⟨g, 0, none⟩)) ∧ MemAt (fun k => w.heap.size ≤ k) w' g mm0 ∧ Below w.heap.size w w' := by
  obtain ⟨D, HD⟩ : ∃ D, Hid (D = (cellsOf noneB).toArray) := ⟨_, rfl⟩
  obtain ⟨CC, HCC⟩ : ∃ CC, Hid (CC = memC (.slice none 0 0) 0 noneB) := ⟨_, rfl⟩
  have hb57 : Tryd.prog.built 57 [(2, .agg D)] = some CC := by rw [HD.out, HCC.out]; exact built57 noneB noneB_len
  have HB : Hid (Tryd.prog.built 57 [(2, .agg D)] = some CC) := hb57
  clear hb57
  go_enter Tryd.func10, Tryd.ntmps10
  go_wp2_with fail
  refine (noWrites_any w hK).mono ?_
  rintro e w1 ⟨rfl, hb1⟩
  rw [← HD.out]
  go_wp2_with (refine Sm.wpList_build_to rfl 57 #[(2, .tmp 1)] rfl CC ?hf ?_)
  case hf => exact (by simp : Tryd.prog.built 57 _ = Tryd.prog.built 57 [(2, .agg D)]).trans HB.out
  go_ret
  refine ⟨_, rfl, ⟨mm0_wf, .slice none 0 0, hb1.size, ?_, ⟨rfl, .inl ⟨rfl, rfl⟩⟩, fun k hk => by cases hk⟩, hb1.alloc hb1.size _⟩
  rw [HCC.out]
  exact heap_alloc_new _ _
theorem memC_chain {w : World} {g : Nat} {v : Value} {l : Int} {ch ch' : List UInt8} (h : w.heap[g]? = some (.cells (memC v l ch) 57 (0, 0))) (hl : ch.length = 32) (hl' : ch'.length = 32) :
    w.setCells g 2 (cellsOf ch') = w.setRow g (memC v l ch') := by
  rw [Sm.setCells_row g 57 (cellsOf ch') 2 (v :: .int .i64 l :: cellsOf ch) w h (by simp [cellsOf_length, hl, hl'])]
  congr 1
  rw [memC, splice]
  congr 1
  have h1 : ((v :: .int .i64 l :: cellsOf ch) : List Value).take 2 = [v, .int .i64 l] := rfl
  have h2 : ((v :: .int .i64 l :: cellsOf ch) : List Value).drop (2 + (cellsOf ch').length) = [] := by
    apply List.drop_eq_nil_of_le
    simp [cellsOf_length, hl, hl']
  rw [h1, h2]
  simp
theorem memC_there {w : World} {g : Nat} {v : Value} {l : Int} {ch : List UInt8} (h : w.heap[g]? = some (.cells (memC v l ch) 57 (0, 0))) (hl : ch.length = 32) : w.there g 2 32 := fun j hj =>
  ⟨by rw [cell_of_row _ _ _ _ _ _ h, memC]; simp [cellsOf_length, hl]; omega, fz_of h _⟩
theorem memC_set0 {w : World} {g : Nat} {v u : Value} {l : Int} {ch : List UInt8} (h : w.heap[g]? = some (.cells (memC v l ch) 57 (0, 0))) : (w.setCell ⟨g, 0, none⟩ u).heap[g]? = some (.cells (memC u l ch) 57 (0, 0)) := by
  rw [heap_set h]; simp [memC]
theorem memC_set1 {w : World} {g : Nat} {v : Value} {l l' : Int} {ch : List UInt8} (h : w.heap[g]? = some (.cells (memC v l ch) 57 (0, 0))) : (w.setCell ⟨g, 1, none⟩ (.int .i64 l')).heap[g]? = some (.cells (memC v l' ch) 57 (0, 0)) := by
  rw [heap_set h]; simp [memC]
set_option maxRecDepth 100000 in
set_option maxHeartbeats 1000000 in
theorem clear_any (own : Nat → Prop) (g : Nat) (A : Mm) (w : World) (h : MemAt own w g A) (hK : KK w) (h1 : ¬ own 1) :
    Calls Tryd.prog 15 #[.pointer (some ⟨g, 0, none⟩)] w fun e w' => e = .returned (.tuple #[]) ∧ MemAt own w' g ⟨[], A.last, noneB⟩ ∧ Only own w w' := by
  obtain ⟨D, HD⟩ : ∃ D, Hid (D = (cellsOf noneB).toArray) := ⟨_, rfl⟩
  have hDs : D.size = 32 := by rw [HD.out, List.size_toArray, cellsOf_length, noneB_len]
  have hD1 : D.all (·.oneCell') = true := by rw [HD.out]; exact dig_one _
  obtain ⟨wf, v, hM⟩ := h
  obtain ⟨ao, c, rfl, -⟩ := hM.slice
  have c0 := hM.c0
  have f0 := hM.fz 0
  have hc := memC_set0 (u := .slice none 0 0) hM.cells
  have ho : Only own w (w.setCell ⟨g, 0, none⟩ (.slice none 0 0)) := (Only.refl own w).setCell (.inl hM.og) _
  have hK2 := hK.only ho h1
  have hog := hM.og
  clear hM
  go_enter Tryd.func15, Tryd.ntmps15
  go_wp2_with fail
  refine (noWrites_any _ hK2).mono ?_
  rintro e w1 ⟨rfl, hb1⟩
  rw [← HD.out]
  have hc1 := (hb1.block g (heap_lt hc)).trans hc
  have ho1 : Only own w w1 := ho.trans (Only.of_below (own := own) hb1) (fun _ e => .inl e)
  have HT : Hid (w1.there g 2 D.size) := by show World.there _ _ _ _; rw [hDs]; exact memC_there hc1 wf.chl
  clear hb1 hK2 ho hc c0 f0 hK
  go_wp2_with (refine wpList_store_mid rfl 42 (.tmp 8) (.tmp 6) rfl g 2 D rfl rfl HT.out ?hsz hD1 ?_)
  case hsz => rw [size42, hDs]
  rw [HD.out, memC_chain hc1 wf.chl noneB_len]
  go_end0
  refine ⟨rfl, ⟨⟨List.Pairwise.nil, by simp, noneB_len, (fun x hx => by cases hx), (fun x hx => by cases hx)⟩, .slice none 0 0, hog, setRow_heap _ _ _ _ _ _ hc1, ⟨rfl, .inl ⟨rfl, rfl⟩⟩, fun k hk => by cases hk⟩, ho1.setRow (.inl hog) _⟩
end Go.Proofs.YtaamekkbgaeafaaDoor
namespace Go.Proofs.YtaamekkbgaeafaaDoor
open Go.RowKit
set_option linter.unusedSectionVars false
variable [Inhabited E]
theorem results_entry2 {fn : Func} {p u : Tmp} (h : fn.results = #[.cell p 29, .tmp u]) (tmps : Array Value) (w : World) (g : Nat) (t : TypeId) (cs : Array Value) (fr : Nat × Nat)
    (hp : tmps.getD p undef = .pointer (some ⟨g, 0, none⟩)) (hg : w.heap[g]? = some (.cells cs t fr)) (hi : (Tryd.prog.info? 29).map (·.size) = some cs.size) :
    (results fn tmps).run Tryd.prog w = .ok (.tuple #[.agg cs, tmps.getD u undef]) w := by
  have hp' : tmps[p]?.getD undef = .pointer (some ⟨g, 0, none⟩) := by simpa using hp
  simp [results, h, hp', asAddr, run_loadVar_row w g t 29 cs fr _ hg Tryd.underlying29 rfl hi]
theorem get_cells (own : Nat → Prop) (g : Nat) (A : Mm) (w : World) (h : MemAt own w g A) (r : Nat) (hr : r < A.es.length) {k v : ByteArray} {d : Bool} {q : Int} (hx : A.es[r]! = ⟨k, v, d, q⟩) :
    ∃ b c, w.cell? ⟨g, 0, none⟩ = some (.slice (some ⟨b, 0, none⟩) A.es.length c) ∧ w.cell? ⟨b, r * 4, none⟩ = some (.string k) ∧ w.cell? ⟨b, r * 4 + 1, none⟩ = some (.string v) ∧ w.cell? ⟨b, r * 4 + 2, none⟩ = some (.bool d) ∧ w.cell? ⟨b, r * 4 + 3, none⟩ = some (.int .i64 q) := by
  obtain ⟨wf, v, hM⟩ := h
  obtain ⟨ao, c, rfl, hEV, hnc, hc, hnone, hsome⟩ := hM.slice
  obtain ⟨b, off, rfl, hEn⟩ := hEV.2 (by omega)
  obtain ⟨b2, e1, e2, e3, e4⟩ := hsome _ rfl
  cases e1
  obtain ⟨f0, f1, f2, f3⟩ := ents_four hEn r hr hx
  rw [Nat.zero_add] at f0 f1 f2 f3
  exact ⟨b, c, hM.c0, f0, f1, f2, f3⟩
theorem four_set {w : World} {g : Nat} {a0 b0 c0 d0 : Value} {t : TypeId} {fr : Nat × Nat} (h : w.heap[g]? = some (.cells #[a0, b0, c0, d0] t fr)) (a b c d : Value) :
    ((((w.setCell ⟨g, 0, none⟩ a).setCell ⟨g, 1, none⟩ b).setCell ⟨g, 2, none⟩ c).setCell ⟨g, 3, none⟩ d).heap[g]? = some (.cells #[a, b, c, d] t fr) := by
  rw [heap_set (heap_set (heap_set (heap_set h 0 a) 1 b) 2 c) 3 d]
  simp
theorem below_set {B g i : Nat} {w0 w : World} (h : Below B w0 w) (hg : B ≤ g) (u : Value) : Below B w0 (w.setCell ⟨g, i, none⟩ u) :=
  h.trans ⟨rfl, rfl, rfl, by simp [World.setCell], fun k hk => heap_set_ne w i u (by omega)⟩
theorem below_four {B g : Nat} {w0 w : World} (h : Below B w0 w) (hg : B ≤ g) (a b c d : Value) :
    Below B w0 ((((w.setCell ⟨g, 0, none⟩ a).setCell ⟨g, 1, none⟩ b).setCell ⟨g, 2, none⟩ c).setCell ⟨g, 3, none⟩ d) := below_set (below_set (below_set (below_set h hg a) hg b) hg c) hg d
/-- What Get answers. -/
def getV (key : ByteArray) (es : List E) : E := if isIn key es then es[belowN key es]! else ⟨⟨#[]⟩, ⟨#[]⟩, false, 0⟩
set_option maxRecDepth 100000 in
set_option maxHeartbeats 2000000 in
theorem get_mem (own : Nat → Prop) (g : Nat) (A : Mm) (key : ByteArray) (w : World) (h : MemAt own w g A) :
    Calls Tryd.prog 20 #[.pointer (some ⟨g, 0, none⟩), .string key] w fun e w' => e = .returned (.tuple #[.agg (encE (getV key A.es)).toArray, .bool (isIn key A.es)]) ∧ Below w.heap.size w w' := by
  have hI := ks_isIn key h.1.ks
  obtain ⟨x, HX⟩ : ∃ x, Hid (getV key A.es = x) := ⟨_, rfl⟩
  obtain ⟨q, HQ⟩ : ∃ q, Hid (isIn key A.es = q) := ⟨_, rfl⟩
  obtain ⟨r, HR⟩ : ∃ r, Hid (belowN key A.es = r) := ⟨_, rfl⟩
  rw [HX.out, HQ.out]
  rw [HQ.out, HR.out] at hI
  have hN : A.es.length ≤ 64 := h.1.len
  have HH0 := h.grown (bel_alloc w (.cells #[.string ⟨#[]⟩, .string ⟨#[]⟩, .bool false, .int .i64 0] 29))
  have hgl := h.lt
  clear h
  cases q with
  | false =>
    have hx : x = ⟨⟨#[]⟩, ⟨#[]⟩, false, 0⟩ := by rw [← HX.out, getV, HQ.out]; rfl
    subst hx
    clear HX hI
    go_enter Tryd.func20, Tryd.ntmps20
    go_wp2_with (go_at_call 31; refine (find_mem own g A key _ HH0).mono ?_; rintro e w1 ⟨rfl, hb1⟩; simp only [HR.out, HQ.out]; have e1 := (hb1.block w.heap.size (by simp)).trans (heap_alloc_new w _); have hb : Below w.heap.size w w1 := (bel_alloc w _).trans (hb1.mono (by simp)); clear hb1 HH0 HR HQ; have z0 := fz_of e1 0; have z1 := fz_of e1 1; have z2 := fz_of e1 2; have z3 := fz_of e1 3; have f0 := cell_of_row _ _ 0 _ _ _ e1; have f1 := cell_of_row _ _ 1 _ _ _ e1; have f2 := cell_of_row _ _ 2 _ _ _ e1; have f3 := cell_of_row _ _ 3 _ _ _ e1; simp only [List.getElem?_toArray, List.getElem?_cons_zero, List.getElem?_cons_succ] at f0 f1 f2 f3)
    refine bodyPost_ret (results_entry2 rfl _ _ w.heap.size 29 _ _ rfl (four_set (by assumption) _ _ _ _) size23) rfl ?_
    exact ⟨rfl, below_four (by assumption) (Nat.le_refl _) _ _ _ _⟩
  | true =>
    have hl : r < A.es.length := by
      by_cases hl : r < A.es.length
      · exact hl
      · rw [decide_eq_false hl] at hI; cases hI
    have hx : A.es[r]! = x := by rw [← HX.out, getV, HQ.out, HR.out]; rfl
    obtain ⟨k, v, d, sq⟩ := x
    clear HX hI
    go_enter Tryd.func20, Tryd.ntmps20
    have hlz : (r : Int) < (A.es.length : Int) := by omega
    go_wp2_with (go_at_call 31; refine (find_mem own g A key _ HH0).mono ?_; rintro e w1 ⟨rfl, hb1⟩; simp only [HR.out, HQ.out]; have HH1 := HH0.grown hb1; have e1 := (hb1.block w.heap.size (by simp)).trans (heap_alloc_new w _); have hb : Below w.heap.size w w1 := (bel_alloc w _).trans (hb1.mono (by simp)); clear hb1 HH0 HR HQ; obtain ⟨b, c, c0, g0, g1, g2, g3⟩ := get_cells own g A w1 HH1 r hl hx; clear HH1; have z0 := fz_of e1 0; have z1 := fz_of e1 1; have z2 := fz_of e1 2; have z3 := fz_of e1 3; have f0 := cell_of_row _ _ 0 _ _ _ e1; have f1 := cell_of_row _ _ 1 _ _ _ e1; have f2 := cell_of_row _ _ 2 _ _ _ e1; have f3 := cell_of_row _ _ 3 _ _ _ e1; simp only [List.getElem?_toArray, List.getElem?_cons_zero, List.getElem?_cons_succ] at f0 f1 f2 f3)
    refine bodyPost_ret (results_entry2 rfl _ _ w.heap.size 29 _ _ rfl (four_set (by assumption) _ _ _ _) size23) rfl ?_
    exact ⟨rfl, below_four (by assumption) (Nat.le_refl _) _ _ _ _⟩
end Go.Proofs.YtaamekkbgaeafaaDoor
namespace Go.Proofs.YtaamekkbgaeafaaDoor
open Go.RowKit
set_option linter.unusedSectionVars false
variable [Inhabited E]
set_option maxRecDepth 100000 in
set_option maxHeartbeats 1000000 in
theorem clone_zero (ao : Option Addr) (c : Nat) (w : World) :
    Calls Tryd.prog 39 #[.slice ao 0 c] w fun e w' => ∃ v', e = .returned v' ∧ w'.ownsRow w.heap.size 29 4 v' 0 [] ∧ Below w.heap.size w w' := by
  have q35 : ∀ (w : World) (a : Option Addr) (n c n' c' : Nat), (binOp .eql 35 (.slice a n c) (.slice none n' c')).run Tryd.prog w = .ok (.bool a.isNone) w := fun w a n c n' c' => Lib.run_eql_slice_nil w _ _ a n c n' c' Tryd.underlying35
  cases ao with
  | none =>
    go_enter Tryd.func39, Tryd.ntmps39
    go_wp2
    go_ret
    exact ⟨_, rfl, ⟨rfl, .inl ⟨rfl, rfl⟩⟩, Below.refl _ _⟩
  | some a =>
    go_enter Tryd.func39, Tryd.ntmps39
    go_wp2
    go_ret
    exact ⟨_, rfl, World.ownsRow_made w #[] 0 (Nat.le_refl _) (by decide) rfl, bel_alloc _ _⟩
theorem clone_all (ao : Option Addr) (n c : Nat) (es : List E) (w : World) (hE : EntsV w ao n es) (hbig : n ≤ 1000000000000) :
    Calls Tryd.prog 39 #[.slice ao n c] w fun e w' => ∃ v', e = .returned v' ∧ w'.ownsRow w.heap.size 29 4 v' n (flatE es) ∧ Below w.heap.size w w' := by
  by_cases hn : 0 < n
  · obtain ⟨b, off, rfl, h2⟩ := hE.2 hn
    refine (clone_any b off n c es w hE.1 h2 hbig hn).mono ?_
    rintro e w' ⟨g, cap, rfl, h3, h4, h5⟩
    exact ⟨_, rfl, h4, h5⟩
  · obtain rfl : n = 0 := by omega
    have : es = [] := List.eq_nil_of_length_eq_zero hE.1
    subst this
    exact clone_zero ao c w
def fromN (lo : ByteArray) (es : List E) : Nat := belowN lo es
def toN (lo hi : ByteArray) (es : List E) : Nat := if hi = ⟨#[]⟩ then es.length else max (belowN lo es) (belowN hi es)
def rangeL (lo hi : ByteArray) (es : List E) : List E := (es.drop (belowN lo es)).take (toN lo hi es - belowN lo es)
theorem toN_le (lo hi : ByteArray) (es : List E) : toN lo hi es ≤ es.length := by
  have h1 := belowN_le lo es
  have h2 := belowN_le hi es
  unfold toN
  split <;> omega
theorem from_le (lo hi : ByteArray) (es : List E) : belowN lo es ≤ toN lo hi es := by
  have h1 := belowN_le lo es
  unfold toN
  split <;> omega
/-- A row cut at both ends. -/
theorem ents_cut {w : World} {b n : Nat} {es : List E} (h : Ents w b 0 es) (f t : Nat) (hft : f ≤ t) (ht : t ≤ es.length) (ad : Option Addr) (had : f < t → ad = some ⟨b, f * 4, none⟩) (hn : n = t - f) : EntsV w ad n ((es.drop f).take (t - f)) := by
  subst hn
  refine ⟨by rw [List.length_take, List.length_drop]; omega, fun hp => ⟨b, f * 4, had (by omega), fun j u hu => ?_⟩⟩
  have hj : j < (flatE ((es.drop f).take (t - f))).length := (List.getElem?_eq_some_iff.1 hu).1
  rw [flatE_len, List.length_take, List.length_drop] at hj
  have h2 := h (f * 4 + j) u (by
    rw [← hu]
    have e1 : es = es.take f ++ ((es.drop f).take (t - f) ++ (es.drop f).drop (t - f)) := by rw [List.take_append_drop, List.take_append_drop]
    have e2 : flatE es = flatE (es.take f) ++ (flatE ((es.drop f).take (t - f)) ++ flatE ((es.drop f).drop (t - f))) := by rw [← flatE_append, ← flatE_append, ← e1]
    rw [e2, List.getElem?_append_right (by rw [flatE_len, List.length_take]; omega), flatE_len, List.length_take, Nat.min_eq_left (by omega), Nat.add_sub_cancel_left, List.getElem?_append_left (by rw [flatE_len, List.length_take, List.length_drop]; omega)])
  rw [Nat.zero_add] at h2
  exact h2
set_option maxRecDepth 100000 in
set_option maxHeartbeats 2000000 in
theorem range_mem (own : Nat → Prop) (g : Nat) (A : Mm) (lo hi : ByteArray) (w : World) (h : MemAt own w g A) :
    Calls Tryd.prog 17 #[.pointer (some ⟨g, 0, none⟩), .string lo, .string hi] w fun e w' => ∃ v', e = .returned v' ∧ w'.ownsRow w.heap.size 29 4 v' (rangeL lo hi A.es).length (flatE (rangeL lo hi A.es)) ∧ Below w.heap.size w w' := by
  have hle1 := toN_le lo hi A.es
  have hle2 := from_le lo hi A.es
  have hN : A.es.length ≤ 64 := h.1.len
  obtain ⟨f, HF⟩ : ∃ f, Hid (belowN lo A.es = f) := ⟨_, rfl⟩
  obtain ⟨t, HT⟩ : ∃ t, Hid (toN lo hi A.es = t) := ⟨_, rfl⟩
  rw [HT.out] at hle1 hle2
  rw [HF.out] at hle2
  have hrl : (rangeL lo hi A.es).length = t - f := by rw [rangeL, HT.out, HF.out, List.length_take, List.length_drop]; omega
  have HRL : Hid ((A.es.drop f).take (t - f) = rangeL lo hi A.es) := by show _ = _; rw [rangeL, HT.out, HF.out]
  rw [hrl]
  obtain ⟨ao, c, c0, hEV, hnone, hb⟩ : ∃ ao c, w.cell? ⟨g, 0, none⟩ = some (.slice ao A.es.length c) ∧ EntsV w ao A.es.length A.es ∧ (ao = none → c = 0) ∧ A.es.length ≤ c ∧ ∀ x, ao = some x → ∃ b, x = ⟨b, 0, none⟩ := by
    obtain ⟨wf, v, hM⟩ := h
    obtain ⟨ao, c, rfl, hEV, hnc, hc, hnone, hsome⟩ := hM.slice
    exact ⟨ao, c, hM.c0, hEV, hnone, hnc, fun x hx => by obtain ⟨b, e, _⟩ := hsome x hx; exact ⟨b, e⟩⟩
  have hD : Below w.heap.size w w.drew := Below.drew (Below.refl _ _)
  have HD : Hid (MemAt own w.drew g A) := h.grown hD
  have HP : Hid (Calls Tryd.prog 38 #[.pointer (some ⟨g, 0, none⟩), .string lo] w.drew fun e w' => e = .returned (.int .i64 (f : Nat)) ∧ Below w.heap.size w.drew w') := by
    have := place_any own g A lo w.drew HD.out
    rw [HF.out] at this
    exact this
  have HEV : Hid (EntsV w ao A.es.length A.es) := hEV
  have HB : Hid ((ao = none → c = 0) ∧ A.es.length ≤ c ∧ ∀ x, ao = some x → ∃ b, x = ⟨b, 0, none⟩) := ⟨hnone, hb⟩
  have hgl := h.lt
  clear hEV hnone hb h hrl
  generalize hnn : A.es.length = n at *
  have HNN : Hid (A.es.length = n) := hnn
  clear hnn
  go_enter Tryd.func17, Tryd.ntmps17
  go_wp2_with fail
  go_region_held3 (fun w' => w'.cell? ⟨g, 0, none⟩ = some (.slice ao n c)) (first | assumption | go_keep) (first | (go_at_call 38; refine Calls.mono HP.out ?_; rintro e w1 ⟨rfl, hb1⟩; have hS2 : w1.cell? ⟨g, 0, none⟩ = some (.slice ao n c) := bel_cell hb1 (Nat.le_refl _) c0; have HB1 : Hid (Below w.heap.size w.drew w1) := hb1; clear hb1))
  have hb1 : Below w.heap.size w w1 := hD.trans HB1.out
  have HM1 : Hid (MemAt own w1 g A) := HD.out.grown HB1.out
  clear HB1 HP HD hD c0
  have zl : (⟨#[]⟩ : ByteArray).toList = [] := by rw [Lib.toList_data]
  obtain ⟨nx, hnx⟩ : ∃ a, (if c = f then ao else Option.map (fun x => x.add (f * 4)) ao) = a := ⟨_, rfl⟩
  have HNX : Hid (EntsV w nx (t - f) ((A.es.drop f).take (t - f))) := by
    show EntsV _ _ _ _
    by_cases hft : f < t
    · obtain ⟨b, off, hao, hEn⟩ := HEV.out.2 (by omega)
      obtain ⟨b2, e2⟩ := HB.out.2.2 _ hao
      cases e2
      have h9 := HB.out.2.1
      refine ents_cut hEn f t hle2 (by rw [HNN.out]; exact hle1) nx (fun _ => ?_) rfl
      rw [← hnx, if_neg (by omega), hao]
      simp [Addr.add_lit]
    · have h0 : t - f = 0 := by omega
      rw [h0]
      exact ⟨by simp, fun hp => absurd hp (Nat.lt_irrefl _)⟩
  have htc : t ≤ c := Nat.le_trans hle1 HB.out.2.1
  have hz1 : (t : Int) ≤ (c : Int) := by omega
  have hz2 : (f : Int) ≤ (t : Int) := by omega
  clear HB HEV
  by_cases hhi : hi = ⟨#[]⟩
  · have d1 : (hi.toList == []) = true := by rw [hhi, zl]; rfl
    have ht : t = n := by rw [← HT.out, toN, if_pos hhi, HNN.out]
    subst ht
    clear hhi
    go_wp2_with fail
    refine (clone_all nx (t - f) (c - f) _ w1 (HNX.out.below hb1 (Nat.le_refl _)) (by omega)).mono ?_
    rintro e w9 ⟨v', rfl, how, hb9⟩
    have HB9 : Hid (Below w.heap.size w w9) := hb1.trans (hb9.mono hb1.size)
    have HOW : Hid (w9.ownsRow w.heap.size 29 4 v' (t - f) (flatE (rangeL lo hi A.es))) := by
      have := how
      rw [HRL.out] at this
      exact ownsRow_mono this hb1.size
    clear how hb9
    go_wp2
    go_ret
    exact ⟨v', rfl, HOW.out, HB9.out⟩
  · have d1 : (hi.toList == []) = false := by
      rw [← zl, eq_cmpS]
      exact decide_eq_false hhi
    obtain ⟨t2, HT2⟩ : ∃ t2, Hid (belowN hi A.es = t2) := ⟨_, rfl⟩
    have ht : max (f : Int) (t2 : Int) = (t : Int) := by
      have h0 : t = max f t2 := by rw [← HT.out, toN, if_neg hhi, HF.out, HT2.out]
      omega
    clear hhi
    go_wp2_with (go_at_call 38; refine (place_any own g A hi _ HM1.out).mono ?_; rintro e w2 ⟨rfl, hb2⟩; simp only [HT2.out]; have hS3 : w2.cell? ⟨g, 0, none⟩ = some (.slice ao n c) := bel_cell hb2 (Nat.le_refl _) hS2; have hbb : Below w.heap.size w w2 := hb1.trans (hb2.mono hb1.size))
    refine (clone_all nx (t - f) (c - f) _ w2 (HNX.out.below hbb (Nat.le_refl _)) (by omega)).mono ?_
    rintro e w9 ⟨v', rfl, how, hb9⟩
    have HB9 : Hid (Below w.heap.size w w9) := hbb.trans (hb9.mono hbb.size)
    have HOW : Hid (w9.ownsRow w.heap.size 29 4 v' (t - f) (flatE (rangeL lo hi A.es))) := by
      have := how
      rw [HRL.out] at this
      exact ownsRow_mono this hbb.size
    clear how hb9
    go_wp2
    go_ret
    exact ⟨v', rfl, HOW.out, HB9.out⟩
theorem range_all (es : List E) : rangeL ⟨#[]⟩ ⟨#[]⟩ es = es := by
  have h0 : belowN ⟨#[]⟩ es = 0 := by
    rw [belowN, List.countP_eq_zero]
    intro e _
    simp only [decide_eq_true_eq]
    rw [show cmpS e.key ⟨#[]⟩ < 0 ↔ (decide (cmpS e.key ⟨#[]⟩ < 0) = true) by simp, ← less_cmpS, Lib.toList_data ⟨#[]⟩]
    cases e.key.toList <;> simp [Op.bytesLess]
  rw [rangeL, h0, toN, if_pos rfl]
  simp
set_option maxRecDepth 100000 in
set_option maxHeartbeats 2000000 in
theorem all_mem (own : Nat → Prop) (g : Nat) (A : Mm) (w : World) (h : MemAt own w g A) :
    Calls Tryd.prog 25 #[.pointer (some ⟨g, 0, none⟩)] w fun e w' => ∃ v', e = .returned v' ∧ w'.ownsRow w.heap.size 29 4 v' A.es.length (flatE A.es) ∧ Below w.heap.size w w' := by
  have hr := range_mem own g A ⟨#[]⟩ ⟨#[]⟩ w h
  rw [range_all] at hr
  go_enter Tryd.func25, Tryd.ntmps25
  go_wp2_with (go_at_call 17; refine hr.mono ?_; rintro e w1 ⟨v', rfl, h1, h2⟩)
  go_ret
  exact ⟨v', rfl, h1, h2⟩
end Go.Proofs.YtaamekkbgaeafaaDoor
