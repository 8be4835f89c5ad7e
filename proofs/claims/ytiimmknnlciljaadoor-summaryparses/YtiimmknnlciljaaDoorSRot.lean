/-
  What sum.rotr answers, for each number of places that the program asks: contracts over this translation.
-/
import Derived.Test.YtiimmknnlciljaaDoorProg
import Derived.Test.YtiimmknnlciljaaDoorSMath
import Derived.WalkLawsBesides
import Derived.Lib.Walk
namespace Go.Proofs.YtiimmknnlciljaaDoor.Sm
open Go.RowKit
theorem ret_u32 {a b : Int} (h : a = b) : Ending.returned (.int .u32 a) = .returned (.int .u32 b) := by rw [h]
theorem rotr_2 (x : UInt32) (w : World) : Calls Tryd.prog 72 #[.int .u32 x.toNat, .int .i64 2] w fun e w' => e = .returned (.int .u32 (rot x 2).toNat) ∧ w' = w := by
  have hx := x.toNat_lt
  have h5 : bits .and .u64 (IntKind.u64.wrap (-2)) 31 = 30 := by decide
  go_enter Tryd.func72, Tryd.ntmps72
  go_wp2
  go_ret
  exact ⟨ret_u32 (w_rot x 2 1073741824 4 (by decide) (by decide) (by decide) (by decide)), rfl⟩
theorem rotr_13 (x : UInt32) (w : World) : Calls Tryd.prog 72 #[.int .u32 x.toNat, .int .i64 13] w fun e w' => e = .returned (.int .u32 (rot x 13).toNat) ∧ w' = w := by
  have hx := x.toNat_lt
  have h5 : bits .and .u64 (IntKind.u64.wrap (-13)) 31 = 19 := by decide
  go_enter Tryd.func72, Tryd.ntmps72
  go_wp2
  go_ret
  exact ⟨ret_u32 (w_rot x 13 524288 8192 (by decide) (by decide) (by decide) (by decide)), rfl⟩
theorem rotr_22 (x : UInt32) (w : World) : Calls Tryd.prog 72 #[.int .u32 x.toNat, .int .i64 22] w fun e w' => e = .returned (.int .u32 (rot x 22).toNat) ∧ w' = w := by
  have hx := x.toNat_lt
  have h5 : bits .and .u64 (IntKind.u64.wrap (-22)) 31 = 10 := by decide
  go_enter Tryd.func72, Tryd.ntmps72
  go_wp2
  go_ret
  exact ⟨ret_u32 (w_rot x 22 1024 4194304 (by decide) (by decide) (by decide) (by decide)), rfl⟩
theorem rotr_6 (x : UInt32) (w : World) : Calls Tryd.prog 72 #[.int .u32 x.toNat, .int .i64 6] w fun e w' => e = .returned (.int .u32 (rot x 6).toNat) ∧ w' = w := by
  have hx := x.toNat_lt
  have h5 : bits .and .u64 (IntKind.u64.wrap (-6)) 31 = 26 := by decide
  go_enter Tryd.func72, Tryd.ntmps72
  go_wp2
  go_ret
  exact ⟨ret_u32 (w_rot x 6 67108864 64 (by decide) (by decide) (by decide) (by decide)), rfl⟩
theorem rotr_11 (x : UInt32) (w : World) : Calls Tryd.prog 72 #[.int .u32 x.toNat, .int .i64 11] w fun e w' => e = .returned (.int .u32 (rot x 11).toNat) ∧ w' = w := by
  have hx := x.toNat_lt
  have h5 : bits .and .u64 (IntKind.u64.wrap (-11)) 31 = 21 := by decide
  go_enter Tryd.func72, Tryd.ntmps72
  go_wp2
  go_ret
  exact ⟨ret_u32 (w_rot x 11 2097152 2048 (by decide) (by decide) (by decide) (by decide)), rfl⟩
theorem rotr_25 (x : UInt32) (w : World) : Calls Tryd.prog 72 #[.int .u32 x.toNat, .int .i64 25] w fun e w' => e = .returned (.int .u32 (rot x 25).toNat) ∧ w' = w := by
  have hx := x.toNat_lt
  have h5 : bits .and .u64 (IntKind.u64.wrap (-25)) 31 = 7 := by decide
  go_enter Tryd.func72, Tryd.ntmps72
  go_wp2
  go_ret
  exact ⟨ret_u32 (w_rot x 25 128 33554432 (by decide) (by decide) (by decide) (by decide)), rfl⟩
theorem rotr_7 (x : UInt32) (w : World) : Calls Tryd.prog 72 #[.int .u32 x.toNat, .int .i64 7] w fun e w' => e = .returned (.int .u32 (rot x 7).toNat) ∧ w' = w := by
  have hx := x.toNat_lt
  have h5 : bits .and .u64 (IntKind.u64.wrap (-7)) 31 = 25 := by decide
  go_enter Tryd.func72, Tryd.ntmps72
  go_wp2
  go_ret
  exact ⟨ret_u32 (w_rot x 7 33554432 128 (by decide) (by decide) (by decide) (by decide)), rfl⟩
theorem rotr_18 (x : UInt32) (w : World) : Calls Tryd.prog 72 #[.int .u32 x.toNat, .int .i64 18] w fun e w' => e = .returned (.int .u32 (rot x 18).toNat) ∧ w' = w := by
  have hx := x.toNat_lt
  have h5 : bits .and .u64 (IntKind.u64.wrap (-18)) 31 = 14 := by decide
  go_enter Tryd.func72, Tryd.ntmps72
  go_wp2
  go_ret
  exact ⟨ret_u32 (w_rot x 18 16384 262144 (by decide) (by decide) (by decide) (by decide)), rfl⟩
theorem rotr_17 (x : UInt32) (w : World) : Calls Tryd.prog 72 #[.int .u32 x.toNat, .int .i64 17] w fun e w' => e = .returned (.int .u32 (rot x 17).toNat) ∧ w' = w := by
  have hx := x.toNat_lt
  have h5 : bits .and .u64 (IntKind.u64.wrap (-17)) 31 = 15 := by decide
  go_enter Tryd.func72, Tryd.ntmps72
  go_wp2
  go_ret
  exact ⟨ret_u32 (w_rot x 17 32768 131072 (by decide) (by decide) (by decide) (by decide)), rfl⟩
theorem rotr_19 (x : UInt32) (w : World) : Calls Tryd.prog 72 #[.int .u32 x.toNat, .int .i64 19] w fun e w' => e = .returned (.int .u32 (rot x 19).toNat) ∧ w' = w := by
  have hx := x.toNat_lt
  have h5 : bits .and .u64 (IntKind.u64.wrap (-19)) 31 = 13 := by decide
  go_enter Tryd.func72, Tryd.ntmps72
  go_wp2
  go_ret
  exact ⟨ret_u32 (w_rot x 19 8192 524288 (by decide) (by decide) (by decide) (by decide)), rfl⟩
end Go.Proofs.YtiimmknnlciljaaDoor.Sm
