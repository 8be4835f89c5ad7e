/-
  What the document's answer marlstoneref02.turned answers, for each number of places that it is asked, and marlstoneref02.Constants: contracts over this translation.
-/
import Derived.Test.YtecacjddggljgaaDoorSRefSmall
namespace Go.Proofs.YtecacjddggljgaaDoor.Sm
open Go.RowKit
theorem w_turn (x n : UInt32) (p q : Nat) (hn : n.toNat < 32) (hm : (32 - n).toNat < 32) (hp : 2 ^ (32 - n).toNat = p) (hq : 2 ^ n.toNat = q) :
    bits .or .u32 ((x.toNat : Int) / (q : Int)) ((x.toNat : Int) * (p : Int) % 4294967296) = ((rot x n).toNat : Int) := by
  rw [w_shl x (32 - n) p hm hp, w_shr x n q hn hq, w_or, UInt32.or_comm]; rfl
theorem turned_2 (x : UInt32) (w : World) : Calls Tryd.prog 148 #[.int .u32 x.toNat, .int .i64 2] w fun e w' => e = .returned (.int .u32 (rot x 2).toNat) ∧ w' = w := by
  have hx := x.toNat_lt
  go_enter Tryd.func148, Tryd.ntmps148
  go_wp2
  go_ret
  exact ⟨ret_u32 (w_turn x 2 1073741824 4 (by decide) (by decide) (by decide) (by decide)), rfl⟩
theorem turned_13 (x : UInt32) (w : World) : Calls Tryd.prog 148 #[.int .u32 x.toNat, .int .i64 13] w fun e w' => e = .returned (.int .u32 (rot x 13).toNat) ∧ w' = w := by
  have hx := x.toNat_lt
  go_enter Tryd.func148, Tryd.ntmps148
  go_wp2
  go_ret
  exact ⟨ret_u32 (w_turn x 13 524288 8192 (by decide) (by decide) (by decide) (by decide)), rfl⟩
theorem turned_22 (x : UInt32) (w : World) : Calls Tryd.prog 148 #[.int .u32 x.toNat, .int .i64 22] w fun e w' => e = .returned (.int .u32 (rot x 22).toNat) ∧ w' = w := by
  have hx := x.toNat_lt
  go_enter Tryd.func148, Tryd.ntmps148
  go_wp2
  go_ret
  exact ⟨ret_u32 (w_turn x 22 1024 4194304 (by decide) (by decide) (by decide) (by decide)), rfl⟩
theorem turned_6 (x : UInt32) (w : World) : Calls Tryd.prog 148 #[.int .u32 x.toNat, .int .i64 6] w fun e w' => e = .returned (.int .u32 (rot x 6).toNat) ∧ w' = w := by
  have hx := x.toNat_lt
  go_enter Tryd.func148, Tryd.ntmps148
  go_wp2
  go_ret
  exact ⟨ret_u32 (w_turn x 6 67108864 64 (by decide) (by decide) (by decide) (by decide)), rfl⟩
theorem turned_11 (x : UInt32) (w : World) : Calls Tryd.prog 148 #[.int .u32 x.toNat, .int .i64 11] w fun e w' => e = .returned (.int .u32 (rot x 11).toNat) ∧ w' = w := by
  have hx := x.toNat_lt
  go_enter Tryd.func148, Tryd.ntmps148
  go_wp2
  go_ret
  exact ⟨ret_u32 (w_turn x 11 2097152 2048 (by decide) (by decide) (by decide) (by decide)), rfl⟩
theorem turned_25 (x : UInt32) (w : World) : Calls Tryd.prog 148 #[.int .u32 x.toNat, .int .i64 25] w fun e w' => e = .returned (.int .u32 (rot x 25).toNat) ∧ w' = w := by
  have hx := x.toNat_lt
  go_enter Tryd.func148, Tryd.ntmps148
  go_wp2
  go_ret
  exact ⟨ret_u32 (w_turn x 25 128 33554432 (by decide) (by decide) (by decide) (by decide)), rfl⟩
theorem turned_7 (x : UInt32) (w : World) : Calls Tryd.prog 148 #[.int .u32 x.toNat, .int .i64 7] w fun e w' => e = .returned (.int .u32 (rot x 7).toNat) ∧ w' = w := by
  have hx := x.toNat_lt
  go_enter Tryd.func148, Tryd.ntmps148
  go_wp2
  go_ret
  exact ⟨ret_u32 (w_turn x 7 33554432 128 (by decide) (by decide) (by decide) (by decide)), rfl⟩
theorem turned_18 (x : UInt32) (w : World) : Calls Tryd.prog 148 #[.int .u32 x.toNat, .int .i64 18] w fun e w' => e = .returned (.int .u32 (rot x 18).toNat) ∧ w' = w := by
  have hx := x.toNat_lt
  go_enter Tryd.func148, Tryd.ntmps148
  go_wp2
  go_ret
  exact ⟨ret_u32 (w_turn x 18 16384 262144 (by decide) (by decide) (by decide) (by decide)), rfl⟩
theorem turned_17 (x : UInt32) (w : World) : Calls Tryd.prog 148 #[.int .u32 x.toNat, .int .i64 17] w fun e w' => e = .returned (.int .u32 (rot x 17).toNat) ∧ w' = w := by
  have hx := x.toNat_lt
  go_enter Tryd.func148, Tryd.ntmps148
  go_wp2
  go_ret
  exact ⟨ret_u32 (w_turn x 17 32768 131072 (by decide) (by decide) (by decide) (by decide)), rfl⟩
theorem turned_19 (x : UInt32) (w : World) : Calls Tryd.prog 148 #[.int .u32 x.toNat, .int .i64 19] w fun e w' => e = .returned (.int .u32 (rot x 19).toNat) ∧ w' = w := by
  have hx := x.toNat_lt
  go_enter Tryd.func148, Tryd.ntmps148
  go_wp2
  go_ret
  exact ⟨ret_u32 (w_turn x 19 8192 524288 (by decide) (by decide) (by decide) (by decide)), rfl⟩
theorem wcells_length (l : List UInt32) : (wcells l).length = l.length := by simp [wcells]
set_option maxRecDepth 100000 in
set_option maxHeartbeats 1000000 in
theorem constants_any (w : World) : Calls Tryd.prog 145 #[] w fun e w' => ∃ g, e = .returned (.slice (some ⟨g, 0, none⟩) 64 64) ∧ w.heap.size ≤ g ∧ g < w'.heap.size ∧ WW w' g ks ∧ Below w.heap.size w w' := by
  go_enter Tryd.func145, Tryd.ntmps145
  go_wp2
  go_ret
  refine ⟨w.heap.size, rfl, Nat.le_refl _, by simp, WW_of_block (ty := 196) (fr := (0, 0)) rfl ?_, bel_alloc _ _⟩
  exact heap_alloc_new _ _
end Go.Proofs.YtecacjddggljgaaDoor.Sm
