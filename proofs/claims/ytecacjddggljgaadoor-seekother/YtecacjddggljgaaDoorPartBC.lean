/-
  What sum.rotr answers, for each number of places that the program asks: contracts over this translation. Words in blocks: what lies where, behind an alloc, a draw, a store. No walk. What sum.spread answers: a contract over this translation.
-/
import Derived.Test.YtecacjddggljgaaDoorProg
import Derived.Test.YtecacjddggljgaaDoorPartBB
import Derived.WalkLawsBesides
import Derived.Lib.Walk
import Derived.Deep.QuietTactic
import Derived.BigQuiet
import Derived.Deep.MidRow
import Derived.Laws.CopyOwn
import Derived.Deep.RegionWith
import Derived.Deep.RegionHeld3
namespace Go.Proofs.YtecacjddggljgaaDoor.Sm
open Go.RowKit
theorem ret_u32 {a b : Int} (h : a = b) : Ending.returned (.int .u32 a) = .returned (.int .u32 b) := by rw [h]
theorem rotr_2 (x : UInt32) (w : World) : Calls Tryd.prog 144 #[.int .u32 x.toNat, .int .i64 2] w fun e w' => e = .returned (.int .u32 (rot x 2).toNat) ∧ w' = w := by
  have hx := x.toNat_lt
  have h5 : bits .and .u64 (IntKind.u64.wrap (-2)) 31 = 30 := by decide
  go_enter Tryd.func144, Tryd.ntmps144
  go_wp2
  go_ret
  exact ⟨ret_u32 (w_rot x 2 1073741824 4 (by decide) (by decide) (by decide) (by decide)), rfl⟩
theorem rotr_13 (x : UInt32) (w : World) : Calls Tryd.prog 144 #[.int .u32 x.toNat, .int .i64 13] w fun e w' => e = .returned (.int .u32 (rot x 13).toNat) ∧ w' = w := by
  have hx := x.toNat_lt
  have h5 : bits .and .u64 (IntKind.u64.wrap (-13)) 31 = 19 := by decide
  go_enter Tryd.func144, Tryd.ntmps144
  go_wp2
  go_ret
  exact ⟨ret_u32 (w_rot x 13 524288 8192 (by decide) (by decide) (by decide) (by decide)), rfl⟩
theorem rotr_22 (x : UInt32) (w : World) : Calls Tryd.prog 144 #[.int .u32 x.toNat, .int .i64 22] w fun e w' => e = .returned (.int .u32 (rot x 22).toNat) ∧ w' = w := by
  have hx := x.toNat_lt
  have h5 : bits .and .u64 (IntKind.u64.wrap (-22)) 31 = 10 := by decide
  go_enter Tryd.func144, Tryd.ntmps144
  go_wp2
  go_ret
  exact ⟨ret_u32 (w_rot x 22 1024 4194304 (by decide) (by decide) (by decide) (by decide)), rfl⟩
theorem rotr_6 (x : UInt32) (w : World) : Calls Tryd.prog 144 #[.int .u32 x.toNat, .int .i64 6] w fun e w' => e = .returned (.int .u32 (rot x 6).toNat) ∧ w' = w := by
  have hx := x.toNat_lt
  have h5 : bits .and .u64 (IntKind.u64.wrap (-6)) 31 = 26 := by decide
  go_enter Tryd.func144, Tryd.ntmps144
  go_wp2
  go_ret
  exact ⟨ret_u32 (w_rot x 6 67108864 64 (by decide) (by decide) (by decide) (by decide)), rfl⟩
theorem rotr_11 (x : UInt32) (w : World) : Calls Tryd.prog 144 #[.int .u32 x.toNat, .int .i64 11] w fun e w' => e = .returned (.int .u32 (rot x 11).toNat) ∧ w' = w := by
  have hx := x.toNat_lt
  have h5 : bits .and .u64 (IntKind.u64.wrap (-11)) 31 = 21 := by decide
  go_enter Tryd.func144, Tryd.ntmps144
  go_wp2
  go_ret
  exact ⟨ret_u32 (w_rot x 11 2097152 2048 (by decide) (by decide) (by decide) (by decide)), rfl⟩
theorem rotr_25 (x : UInt32) (w : World) : Calls Tryd.prog 144 #[.int .u32 x.toNat, .int .i64 25] w fun e w' => e = .returned (.int .u32 (rot x 25).toNat) ∧ w' = w := by
  have hx := x.toNat_lt
  have h5 : bits .and .u64 (IntKind.u64.wrap (-25)) 31 = 7 := by decide
  go_enter Tryd.func144, Tryd.ntmps144
  go_wp2
  go_ret
  exact ⟨ret_u32 (w_rot x 25 128 33554432 (by decide) (by decide) (by decide) (by decide)), rfl⟩
theorem rotr_7 (x : UInt32) (w : World) : Calls Tryd.prog 144 #[.int .u32 x.toNat, .int .i64 7] w fun e w' => e = .returned (.int .u32 (rot x 7).toNat) ∧ w' = w := by
  have hx := x.toNat_lt
  have h5 : bits .and .u64 (IntKind.u64.wrap (-7)) 31 = 25 := by decide
  go_enter Tryd.func144, Tryd.ntmps144
  go_wp2
  go_ret
  exact ⟨ret_u32 (w_rot x 7 33554432 128 (by decide) (by decide) (by decide) (by decide)), rfl⟩
theorem rotr_18 (x : UInt32) (w : World) : Calls Tryd.prog 144 #[.int .u32 x.toNat, .int .i64 18] w fun e w' => e = .returned (.int .u32 (rot x 18).toNat) ∧ w' = w := by
  have hx := x.toNat_lt
  have h5 : bits .and .u64 (IntKind.u64.wrap (-18)) 31 = 14 := by decide
  go_enter Tryd.func144, Tryd.ntmps144
  go_wp2
  go_ret
  exact ⟨ret_u32 (w_rot x 18 16384 262144 (by decide) (by decide) (by decide) (by decide)), rfl⟩
theorem rotr_17 (x : UInt32) (w : World) : Calls Tryd.prog 144 #[.int .u32 x.toNat, .int .i64 17] w fun e w' => e = .returned (.int .u32 (rot x 17).toNat) ∧ w' = w := by
  have hx := x.toNat_lt
  have h5 : bits .and .u64 (IntKind.u64.wrap (-17)) 31 = 15 := by decide
  go_enter Tryd.func144, Tryd.ntmps144
  go_wp2
  go_ret
  exact ⟨ret_u32 (w_rot x 17 32768 131072 (by decide) (by decide) (by decide) (by decide)), rfl⟩
theorem rotr_19 (x : UInt32) (w : World) : Calls Tryd.prog 144 #[.int .u32 x.toNat, .int .i64 19] w fun e w' => e = .returned (.int .u32 (rot x 19).toNat) ∧ w' = w := by
  have hx := x.toNat_lt
  have h5 : bits .and .u64 (IntKind.u64.wrap (-19)) 31 = 13 := by decide
  go_enter Tryd.func144, Tryd.ntmps144
  go_wp2
  go_ret
  exact ⟨ret_u32 (w_rot x 19 8192 524288 (by decide) (by decide) (by decide) (by decide)), rfl⟩
end Go.Proofs.YtecacjddggljgaaDoor.Sm
namespace Go.Proofs.YtecacjddggljgaaDoor.Sm
open Go.RowKit
/-- Words as cells. -/
def wcells (l : List UInt32) : List Value := l.map fun x => Value.int .u32 x.toNat
def S8.list (s : S8) : List UInt32 := [s.a, s.b, s.c, s.d, s.e, s.f, s.g, s.h]
/-- 64 words lie in a block. -/
def WW (w : World) (b : Nat) (ws : List UInt32) : Prop := ∀ t : Nat, t < 64 → w.cell? ⟨b, t, none⟩ = some (.int .u32 (ws.getD t 0).toNat)
theorem wcells_getD (l : List UInt32) (t : Nat) (h : t < l.length) : (wcells l).toArray[t]? = some (.int .u32 (l.getD t 0).toNat) := by
  simp [wcells, List.getD, h]
theorem WW_of_block {w : World} {b : Nat} {ws : List UInt32} {ty : TypeId} {fr : Nat × Nat} (hl : ws.length = 64) (h : w.heap[b]? = some (.cells (wcells ws).toArray ty fr)) : WW w b ws := by
  intro t ht
  rw [cell_of_row w b t _ ty fr h]
  exact wcells_getD ws t (by omega)
theorem WW.below {w w' : World} {b B : Nat} {ws : List UInt32} (h : WW w b ws) (hb : Below B w w') (hB : b < B) : WW w' b ws := fun t ht => by
  rw [World.cell?_of_block (hb.block b hB)]; exact h t ht
theorem bel_drewN {B : Nat} {w w' : World} (h : Below B w w') : ∀ n, Below B w (w'.drewN n)
  | 0 => h
  | n + 1 => (bel_drewN h n).drew
theorem size141 : (Tryd.prog.info? 199).map (·.size) = some 8 := by kernel_rfl
theorem wcells_one (l : List UInt32) : (wcells l).toArray.all (·.oneCell') = true :=
  all_oneCell_toArray (fun v hv => by simp only [wcells, List.mem_map] at hv; obtain ⟨x, _, rfl⟩ := hv; rfl)
theorem heap_alloc_get (w : World) (o : Obj) (i : Nat) : (w.alloc o).heap[i]? = if i = w.heap.size then some o else w.heap[i]? := by
  show (w.heap.push o)[i]? = _
  rw [Array.getElem?_push]
end Go.Proofs.YtecacjddggljgaaDoor.Sm
namespace Go.Proofs.YtecacjddggljgaaDoor.Sm
open Go.RowKit
/-- Bytes as cells. -/
def cellsOf (bs : List UInt8) : List Value := bs.map fun b => Value.int .u8 b.toNat
/-- The words so far, and 0 for the others. -/
def wsFill (bl : List UInt8) (i : Nat) : List UInt32 := sched bl i ++ List.replicate (64 - i) 0
theorem size148 : (Tryd.prog.info? 205).map (·.size) = some 64 := by kernel_rfl
theorem cellsOf_getD (l : List UInt8) (t : Nat) (h : t < l.length) : (cellsOf l).toArray[t]? = some (.int .u8 (l.getD t 0).toNat) := by
  simp [cellsOf, List.getD, h]
theorem sched_length (bl : List UInt8) : ∀ i, (sched bl i).length = i
  | 0 => rfl
  | i + 1 => by simp [sched, sched_length bl i]
theorem wsFill_length (bl : List UInt8) (i : Nat) (h : i ≤ 64) : (wsFill bl i).length = 64 := by
  simp [wsFill, sched_length]; omega
theorem wsFill_old (bl : List UInt8) (i j : Nat) (h : j < i) : (wsFill bl i).getD j 0 = (sched bl i).getD j 0 := by
  simp [wsFill, List.getD, List.getElem?_append, sched_length, h]
theorem wsFill_here (bl : List UInt8) (i : Nat) (h : i < 64) : (wsFill bl i).getD i 0 = 0 := by
  have h0 : 0 < 64 - i := by omega
  simp [wsFill, List.getD, sched_length, h0]
theorem wsFill_succ (bl : List UInt8) (i : Nat) (h : i < 64) : (wcells (wsFill bl i)).toArray.setIfInBounds i (.int .u32 (nextW bl (sched bl i) i).toNat) = (wcells (wsFill bl (i + 1))).toArray := by
  rw [List.setIfInBounds_toArray]
  congr 1
  unfold wsFill wcells
  obtain ⟨k, hk⟩ : ∃ k, 64 - i = k + 1 := ⟨63 - i, by omega⟩
  rw [hk, List.replicate_succ, show 64 - (i + 1) = k by omega, List.map_append, List.set_append_right _ _ (by simp [sched_length]), sched]
  simp [sched_length]
def nextF (x y z v : UInt32) : UInt32 := (rot y 17 ^^^ rot y 19 ^^^ y >>> 10) + z + (rot x 7 ^^^ rot x 18 ^^^ x >>> 3) + v
theorem nextW_far (bl : List UInt8) (l : List UInt32) (k : Nat) : nextW bl l (k + 16) = nextF (l.getD (k + 1) 0) (l.getD (k + 14) 0) (l.getD (k + 9) 0) (l.getD k 0) := by
  rw [nextW, if_neg (by omega)]
  rfl
theorem three_blocks (w : World) (A B C : Array Value) (ta tb tc : TypeId) : Below w.heap.size w (((w.alloc (.cells A ta)).alloc (.cells B tb)).alloc (.cells C tc)) ∧ (((w.alloc (.cells A ta)).alloc (.cells B tb)).alloc (.cells C tc)).heap.size = w.heap.size + 3 ∧
    (((w.alloc (.cells A ta)).alloc (.cells B tb)).alloc (.cells C tc)).heap[w.heap.size]? = some (.cells A ta) ∧ (((w.alloc (.cells A ta)).alloc (.cells B tb)).alloc (.cells C tc)).heap[w.heap.size + 1]? = some (.cells B tb) ∧ (((w.alloc (.cells A ta)).alloc (.cells B tb)).alloc (.cells C tc)).heap[w.heap.size + 1 + 1]? = some (.cells C tc) := by
  refine ⟨(((Below.refl _ _).alloc (Nat.le_refl _) _).alloc (by simp) _).alloc (by simp; omega) _, by simp, ?_, ?_, ?_⟩
  · rw [heap_alloc_get, if_neg (by simp; omega), heap_alloc_get, if_neg (by simp), heap_alloc_get, if_pos rfl]
  · rw [heap_alloc_get, if_neg (by simp), heap_alloc_get, if_pos (by simp)]
  · rw [heap_alloc_get, if_pos (by simp)]
theorem set_word {wr w1 : World} {B g i : Nat} {cur new : Array Value} {ty : TypeId} {v : Value} (hB : B ≤ g) (hb : Below B w1 wr) (hg : wr.heap[g]? = some (.cells cur ty (0, 0))) (hnew : cur.setIfInBounds i v = new) :
    Below B w1 (wr.setCell ⟨g, i, none⟩ v).drew ∧ (wr.setCell ⟨g, i, none⟩ v).drew.heap[g]? = some (.cells new ty (0, 0)) := by
  rw [setCell_eq_setRow wr g i cur ty (0, 0) v hg, hnew]
  exact ⟨(below_setRow hb hB _).drew, setRow_heap wr g cur new ty (0, 0) hg⟩
theorem drewN_heap (w : World) : ∀ n, (w.drewN n).heap = w.heap
  | 0 => rfl
  | n + 1 => drewN_heap w n
theorem wp_gen {P : Program} {c : Code} {Q : Exit → Act → World → Prop} {a : Act} {w : World} (R : World → Prop) (hR : R w) (h : ∀ w1, R w1 → Code.wp P c Q a w1) : Code.wp P c Q a w := h w hR
set_option maxRecDepth 100000 in
set_option maxHeartbeats 2000000 in
theorem spread_any (bl : List UInt8) (out : List UInt32) (m : Nat) (w : World) (hl : bl.length = 64) (hm : m = 64) (hout : out = sched bl m) :
    Calls Tryd.prog 136 #[.agg (cellsOf bl).toArray] w fun e w' => e = .returned (.agg (wcells out).toArray) ∧ Below w.heap.size w w' := by
  go_enter Tryd.func136, Tryd.ntmps136
  go_wp2
  refine wp_gen (fun w1 => Below w.heap.size w w1 ∧ w1.heap.size = w.heap.size + 3 ∧ w1.heap[w.heap.size]? = some (.cells (cellsOf bl).toArray 201) ∧ w1.heap[w.heap.size + 1]? = some (.cells (wcells (wsFill bl 0)).toArray 205) ∧ w1.heap[w.heap.size + 1 + 1]? = some (.cells (wcells (wsFill bl 0)).toArray 205)) ?_ ?_
  · exact three_blocks w _ _ _ _ _ _
  rintro w1 ⟨hbel, hsz, hB, hR, hW⟩
  generalize hn : w.heap.size = n at *
  go_loopw [10] (fun t wr => ∃ i : Nat, i ≤ 64 ∧ t = .int .i64 i ∧ Below (n + 2) w1 wr ∧ wr.heap[n + 1 + 1]? = some (.cells (wcells (wsFill bl i)).toArray 205)) (fun t _ => (64 - intOf t).toNat)
  case atStart => exact ⟨0, by omega, rfl, Below.refl _ _, hW⟩
  case round =>
    obtain ⟨i, hi, rfl, hb, hwr⟩ := hrel
    have hbs := hb.size
    by_cases hi64 : i < 64
    · have hnew := wsFill_succ bl i hi64
      have hcd : wr.cell? ⟨n + 1 + 1, i, none⟩ = some (.int .u32 ((wsFill bl i).getD i 0).toNat) := by rw [cell_of_row wr _ i _ _ _ hwr]; exact wcells_getD _ _ (by rw [wsFill_length bl i hi]; exact hi64)
      have hfz := frozen_of_row wr (n + 1 + 1) i _ _ hwr
      by_cases h16 : i < 16
      · have hBr := (hb.block n (by omega)).trans hB
        have hx : ∀ j, j < 64 → wr.cell? ⟨n, j, none⟩ = some (.int .u8 (bl.getD j 0).toNat) := fun j hj => by rw [cell_of_row wr n j _ _ _ hBr]; exact cellsOf_getD bl j (by omega)
        have x0 := hx (4 * i) (by omega)
        have x1 := hx (4 * i + 1) (by omega)
        have x2 := hx (4 * i + 2) (by omega)
        have x3 := hx (4 * i + 3) (by omega)
        have hN : Hid (nextW bl (sched bl i) i = be4 bl i) := by show _ = _; rw [nextW, if_pos h16]
        clear hx hBr
        have e1 : (0 : Int) ≤ 4 * (i : Int) := by omega
        have e2 : 4 * (i : Int) ≤ 4 * (i : Int) + 4 := by omega
        have e3 : 4 * (i : Int) + 4 ≤ 64 := by omega
        have b0 := (bl.getD (4 * i) 0).toNat_lt
        have b1 := (bl.getD (4 * i + 1) 0).toNat_lt
        have b2 := (bl.getD (4 * i + 2) 0).toNat_lt
        have b3 := (bl.getD (4 * i + 3) 0).toNat_lt
        have HE : Hid (be4 bl i = (bl.getD (4 * i) 0).toUInt32 <<< 24 ||| (bl.getD (4 * i + 1) 0).toUInt32 <<< 16 ||| (bl.getD (4 * i + 2) 0).toUInt32 <<< 8 ||| (bl.getD (4 * i + 3) 0).toUInt32) := rfl
        generalize bl.getD (4 * i) 0 = c0 at *
        generalize bl.getD (4 * i + 1) 0 = c1 at *
        generalize bl.getD (4 * i + 2) 0 = c2 at *
        generalize bl.getD (4 * i + 3) 0 = c3 at *
        have HNew : Hid ((wcells (wsFill bl i)).toArray.setIfInBounds i (.int .u32 (nextW bl (sched bl i) i).toNat) = (wcells (wsFill bl (i + 1))).toArray) := hnew
        clear hnew
        go_wp2_with fail
        rw [show 4 * i + 4 - 4 * i = 4 by omega]
        have hfar : ∀ (v : Value) (j : Nat), (wr.setCell ⟨n + 1 + 1, i, none⟩ v).cell? ⟨n, j, none⟩ = wr.cell? ⟨n, j, none⟩ := fun v j => World.cell?_setCell_other _ _ _ _ (by simp)
        go_region_held3 (fun w' => w'.cell? ⟨n, 4 * i, none⟩ = some (.int .u8 (c0.toNat : Int)) ∧ w'.cell? ⟨n, 4 * i + 1, none⟩ = some (.int .u8 (c1.toNat : Int)) ∧ w'.cell? ⟨n, 4 * i + 2, none⟩ = some (.int .u8 (c2.toNat : Int)) ∧ w'.cell? ⟨n, 4 * i + 3, none⟩ = some (.int .u8 (c3.toNat : Int))) (first | assumption | go_keep) (fail)
        simp only [u8w, wshl24, wshl16, wshl8, w_or]
        rw [← HE.out, ← hN.out]
        obtain ⟨hb2, hwr2⟩ := set_word (by omega) hb hwr HNew.out
        generalize (wr.setCell _ _).drew = w3 at *
        clear hb hwr x0 x1 x2 x3 HE hN HNew hfar hcd hfz
        go_wp2
        go_roundw
        case rel => exact ⟨i + 1, by omega, by go_num, hb2, hwr2⟩
        case measure => simp [intOf]; omega
      · have hy : ∀ j, j < i → wr.cell? ⟨n + 1 + 1, j, none⟩ = some (.int .u32 ((sched bl i).getD j 0).toNat) := fun j hj => by
          rw [cell_of_row wr _ j _ _ _ hwr, ← wsFill_old bl i j hj]; exact wcells_getD _ _ (by rw [wsFill_length bl i hi]; omega)
        have HNew : Hid ((wcells (wsFill bl i)).toArray.setIfInBounds i (.int .u32 (nextW bl (sched bl i) i).toNat) = (wcells (wsFill bl (i + 1))).toArray) := hnew
        obtain ⟨j1, hj1, g1⟩ : ∃ j : Nat, (i : Int) - 15 = (j : Int) ∧ i - 15 = j := ⟨i - 15, by omega, rfl⟩
        obtain ⟨j14, hj14, g14⟩ : ∃ j : Nat, (i : Int) - 2 = (j : Int) ∧ i - 2 = j := ⟨i - 2, by omega, rfl⟩
        obtain ⟨j9, hj9, g9⟩ : ∃ j : Nat, (i : Int) - 7 = (j : Int) ∧ i - 7 = j := ⟨i - 7, by omega, rfl⟩
        obtain ⟨j0, hj0, g0⟩ : ∃ j : Nat, (i : Int) - 16 = (j : Int) ∧ i - 16 = j := ⟨i - 16, by omega, rfl⟩
        have hN : Hid (nextW bl (sched bl i) i = nextF ((sched bl i).getD j1 0) ((sched bl i).getD j14 0) ((sched bl i).getD j9 0) ((sched bl i).getD j0 0)) := by
          show _ = _
          rw [nextW, if_neg h16, g1, g14, g9, g0]; rfl
        have y1 := hy j1 (by omega)
        have y14 := hy j14 (by omega)
        have y9 := hy j9 (by omega)
        have y0 := hy j0 (by omega)
        have l1 : (j1 : Int) < 64 := by omega
        have l14 : (j14 : Int) < 64 := by omega
        have l9 : (j9 : Int) < 64 := by omega
        have l0 : (j0 : Int) < 64 := by omega
        clear hy hnew
        generalize (sched bl i).getD j1 0 = x at *
        generalize (sched bl i).getD j14 0 = y at *
        generalize (sched bl i).getD j9 0 = z at *
        generalize (sched bl i).getD j0 0 = v at *
        clear g1 g14 g9 g0
        go_wp2_with fail
        go_quiet (fail)
        have hq := drewN_heap wr nq
        have hb2 : Below (n + 2) w1 (wr.drewN nq) := bel_drewN hb nq
        have hwr2 : (wr.drewN nq).heap[n + 1 + 1]? = some (.cells (wcells (wsFill bl i)).toArray 205) := by rw [hq]; exact hwr
        have z9 : (wr.drewN nq).cell? ⟨n + 1 + 1, j9, none⟩ = some (.int .u32 z.toNat) := by rw [World.cell?_of_block (by rw [hq])]; exact y9
        have z0 : (wr.drewN nq).cell? ⟨n + 1 + 1, j0, none⟩ = some (.int .u32 v.toNat) := by rw [World.cell?_of_block (by rw [hq])]; exact y0
        have hcd2 : ((wr.drewN nq).cell? ⟨n + 1 + 1, i, none⟩) = some (.int .u32 ((wsFill bl i).getD i 0).toNat) := by rw [World.cell?_of_block (by rw [hq])]; exact hcd
        have hfz2 := frozen_of_row _ (n + 1 + 1) i _ _ hwr2
        generalize wr.drewN nq = w2 at *
        have hfar : ∀ u : Value, (w2.setCell ⟨n + 1 + 1, i, none⟩ u).cell? ⟨n + 1 + 1, j9, none⟩ = w2.cell? ⟨n + 1 + 1, j9, none⟩ := fun u => World.cell?_setCell_other _ _ _ _ (fun h => by have := congrArg Addr.off h; simp only at this; omega)
        have hfar0 : ∀ u : Value, (w2.setCell ⟨n + 1 + 1, i, none⟩ u).cell? ⟨n + 1 + 1, j0, none⟩ = w2.cell? ⟨n + 1 + 1, j0, none⟩ := fun u => World.cell?_setCell_other _ _ _ _ (fun h => by have := congrArg Addr.off h; simp only at this; omega)
        clear hb hwr y1 y14 y9 y0 hcd hfz hq
        go_wp2_with fail
        refine (rotr_7 _ _).mono ?_
        rintro e w' ⟨rfl, rfl⟩
        go_wp2_with fail
        refine (rotr_18 _ _).mono ?_
        rintro e w' ⟨rfl, rfl⟩
        go_wp2_with fail
        refine (rotr_17 _ _).mono ?_
        rintro e w' ⟨rfl, rfl⟩
        go_wp2_with fail
        refine (rotr_19 _ _).mono ?_
        rintro e w' ⟨rfl, rfl⟩
        go_wp2_with fail
        have hw9 : IntKind.i64.wrap (j9 : Int) = (j9 : Int) := by rw [IntKind.wrap_i64]; omega
        have hw0 : IntKind.i64.wrap (j0 : Int) = (j0 : Int) := by rw [IntKind.wrap_i64]; omega
        have hp9 : (0 : Int) ≤ (j9 : Int) := by omega
        have hp0 : (0 : Int) ≤ (j0 : Int) := by omega
        have hpi : (0 : Int) ≤ (i : Int) := by omega
        have hli : (i : Int) < 64 := by omega
        go_region_held3 (fun w'' => w''.cell? ⟨n + 1 + 1, j9, none⟩ = some (.int .u32 (z.toNat : Int)) ∧ w''.cell? ⟨n + 1 + 1, j0, none⟩ = some (.int .u32 (v.toNat : Int))) (first | assumption | go_keep) (fail)
        simp only [wshr3, wshr10, w_xor, w_wadd]
        have HV : nextF x y z v = (rot y 17 ^^^ rot y 19 ^^^ y >>> 10) + z + (rot x 7 ^^^ rot x 18 ^^^ x >>> 3) + v := rfl
        rw [← HV, ← hN.out]
        obtain ⟨hb3, hwr3⟩ := set_word (by omega) hb2 hwr2 HNew.out
        generalize (World.setCell _ _ _).drew = w3 at *
        clear hb2 hwr2 z9 z0 hN HNew HV hfar hfar0 hcd2 hfz2
        go_wp2
        go_roundw
        case rel => exact ⟨i + 1, by omega, by go_num, hb3, hwr3⟩
        case measure => simp [intOf]; omega
    · have hi' : i = 64 := by omega
      have hout2 : out = wsFill bl i := by rw [hout, hm, hi']; simp [wsFill]
      have hR2 := (hb.block (n + 1) (by omega)).trans hR
      clear hR hB hW hout
      go_wp2_with (first | (refine wpList_load_row rfl 205 (.tmp 3) rfl (n + 1 + 1) rfl 205 _ (0, 0) _ hwr Tryd.underlying205 rfl ?hs ?_) | (refine wpList_store_row rfl 205 (.tmp 2) (.tmp 85) rfl (n + 1) (wcells (wsFill bl i)).toArray rfl rfl 205 _ hR2 ?hs2 ?ho (wcells_one _) ?_))
      case hs => rw [size148]; simp [wcells, wsFill_length bl i hi]
      case hs2 => rw [size148]; simp [wcells, wsFill_length bl i hi]
      case ho => simp [wcells, wsFill_length bl i hi]; rfl
      refine bodyPost_ret (results_cell_row rfl _ _ (n + 1) 205 _ (0, 0) _ rfl (setRow_heap _ _ _ _ _ _ hR2) Tryd.underlying205 rfl ?hs3) rfl ?_
      case hs3 => rw [size148]; simp [wcells, wsFill_length bl i hi]
      exact ⟨by rw [hout2], by rw [hn]; exact below_setRow (hbel.trans (hb.mono (by omega))) (by omega) _⟩
end Go.Proofs.YtecacjddggljgaaDoor.Sm
