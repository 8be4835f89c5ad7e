/-
  SHA-256's words as plain functions, and how the walk's numbers are they. No program. What sum.rotr answers, for each number of places that the program asks: contracts over this translation. Words in blocks: what lies where, behind an alloc, a draw, a store. No walk.
-/
import Derived.Laws.BitsAllLaws
import Derived.WalkKit
import Derived.WalkSpells
import Derived.Test.YtecacjddggljgaaDoorProg
import Derived.WalkLawsBesides
import Derived.Lib.Walk
import Derived.Deep.QuietTactic
import Derived.BigQuiet
import Derived.Deep.MidRow
import Derived.Laws.CopyOwn
import Derived.Deep.RegionWith
namespace Go.Proofs.YtecacjddggljgaaDoor.Sm

/-- Eight words. -/
structure S8 where
  a : UInt32
  b : UInt32
  c : UInt32
  d : UInt32
  e : UInt32
  f : UInt32
  g : UInt32
  h : UInt32
def rot (x n : UInt32) : UInt32 := x <<< (32 - n) ||| x >>> n
def be4 (l : List UInt8) (t : Nat) : UInt32 := (l.getD (4*t) 0).toUInt32 <<< 24 ||| (l.getD (4*t+1) 0).toUInt32 <<< 16 ||| (l.getD (4*t+2) 0).toUInt32 <<< 8 ||| (l.getD (4*t+3) 0).toUInt32
def nextW (bl : List UInt8) (l : List UInt32) (t : Nat) : UInt32 :=
  if t < 16 then be4 bl t else
    (rot (l.getD (t-2) 0) 17 ^^^ rot (l.getD (t-2) 0) 19 ^^^ l.getD (t-2) 0 >>> 10) + l.getD (t-7) 0 + (rot (l.getD (t-15) 0) 7 ^^^ rot (l.getD (t-15) 0) 18 ^^^ l.getD (t-15) 0 >>> 3) + l.getD (t-16) 0
def sched (bl : List UInt8) : Nat → List UInt32
  | 0 => []
  | t + 1 => sched bl t ++ [nextW bl (sched bl t) t]
def ks : List UInt32 := [
    0x428a2f98, 0x71374491, 0xb5c0fbcf, 0xe9b5dba5, 0x3956c25b, 0x59f111f1, 0x923f82a4, 0xab1c5ed5,
    0xd807aa98, 0x12835b01, 0x243185be, 0x550c7dc3, 0x72be5d74, 0x80deb1fe, 0x9bdc06a7, 0xc19bf174,
    0xe49b69c1, 0xefbe4786, 0x0fc19dc6, 0x240ca1cc, 0x2de92c6f, 0x4a7484aa, 0x5cb0a9dc, 0x76f988da,
    0x983e5152, 0xa831c66d, 0xb00327c8, 0xbf597fc7, 0xc6e00bf3, 0xd5a79147, 0x06ca6351, 0x14292967,
    0x27b70a85, 0x2e1b2138, 0x4d2c6dfc, 0x53380d13, 0x650a7354, 0x766a0abb, 0x81c2c92e, 0x92722c85,
    0xa2bfe8a1, 0xa81a664b, 0xc24b8b70, 0xc76c51a3, 0xd192e819, 0xd6990624, 0xf40e3585, 0x106aa070,
    0x19a4c116, 0x1e376c08, 0x2748774c, 0x34b0bcb5, 0x391c0cb3, 0x4ed8aa4a, 0x5b9cca4f, 0x682e6ff3,
    0x748f82ee, 0x78a5636f, 0x84c87814, 0x8cc70208, 0x90befffa, 0xa4506ceb, 0xbef9a3f7, 0xc67178f2]
def rnd (s : S8) (k w : UInt32) : S8 :=
  let t1 := s.h + (rot s.e 6 ^^^ rot s.e 11 ^^^ rot s.e 25) + (s.e &&& s.f ^^^ ~~~ s.e &&& s.g) + k + w
  let t2 := (rot s.a 2 ^^^ rot s.a 13 ^^^ rot s.a 22) + (s.a &&& s.b ^^^ s.a &&& s.c ^^^ s.b &&& s.c)
  ⟨t1 + t2, s.a, s.b, s.c, s.d + t1, s.e, s.f, s.g⟩
def rounds (ws : List UInt32) (s : S8) : Nat → S8
  | 0 => s
  | t + 1 => rnd (rounds ws s t) (ks.getD t 0) (ws.getD t 0)
def S8.add (s t : S8) : S8 := ⟨s.a + t.a, s.b + t.b, s.c + t.c, s.d + t.d, s.e + t.e, s.f + t.f, s.g + t.g, s.h + t.h⟩
def comp (s : S8) (bl : List UInt8) : S8 := s.add (rounds (sched bl 64) s 64)
def H0 : S8 := ⟨0x6a09e667, 0xbb67ae85, 0x3c6ef372, 0xa54ff53a, 0x510e527f, 0x9b05688c, 0x1f83d9ab, 0x5be0cd19⟩
def chain (l : List UInt8) : Nat → S8
  | 0 => H0
  | n + 1 => comp (chain l n) ((l.drop (64 * n)).take 64)

/-! The walk's numbers. -/
theorem w_lt (x : UInt32) : x.toNat < 4294967296 := x.toNat_lt
theorem w_xor (x y : UInt32) : bits .xor .u32 (x.toNat : Int) (y.toNat : Int) = ((x ^^^ y).toNat : Int) := by
  rw [u32_xor_nat _ _ (w_lt x) (w_lt y), UInt32.toNat_xor]
theorem w_or (x y : UInt32) : bits .or .u32 (x.toNat : Int) (y.toNat : Int) = ((x ||| y).toNat : Int) := by
  rw [u32_or_nat _ _ (w_lt x) (w_lt y), UInt32.toNat_or]
theorem w_and (x y : UInt32) : bits .and .u32 (x.toNat : Int) (y.toNat : Int) = ((x &&& y).toNat : Int) := by
  rw [u32_and_nat _ _ (w_lt x) (w_lt y), UInt32.toNat_and]
theorem w_add (x y : UInt32) : ((x.toNat : Int) + (y.toNat : Int)) % 4294967296 = ((x + y).toNat : Int) := by
  rw [UInt32.toNat_add]; omega
theorem w_add5 (a b c d e : UInt32) : ((a.toNat : Int) + (b.toNat : Int) + (c.toNat : Int) + (d.toNat : Int) + (e.toNat : Int)) % 4294967296 = ((a + b + c + d + e).toNat : Int) := by
  rw [← w_add, ← w_add, ← w_add, ← w_add]; omega
theorem w_add4 (a b c d : UInt32) : ((a.toNat : Int) + (b.toNat : Int) + (c.toNat : Int) + (d.toNat : Int)) % 4294967296 = ((a + b + c + d).toNat : Int) := by
  rw [← w_add, ← w_add, ← w_add]; omega
theorem w_not (x : UInt32) : bits .xor .u32 IntKind.u32.max (x.toNat : Int) = ((~~~ x).toNat : Int) := by
  have hm : IntKind.u32.max = (((-1 : UInt32).toNat : Nat) : Int) := by decide
  rw [hm, w_xor, UInt32.neg_one_xor]
theorem w_shl (x : UInt32) (n : UInt32) (p : Nat) (hn : n.toNat < 32) (hp : 2 ^ n.toNat = p) : ((x.toNat : Int) * (p : Int)) % 4294967296 = ((x <<< n).toNat : Int) := by
  rw [UInt32.toNat_shiftLeft, Nat.mod_eq_of_lt hn, Nat.shiftLeft_eq, hp]; omega
theorem w_shr (x : UInt32) (n : UInt32) (p : Nat) (hn : n.toNat < 32) (hp : 2 ^ n.toNat = p) : (x.toNat : Int) / (p : Int) = ((x >>> n).toNat : Int) := by
  rw [UInt32.toNat_shiftRight, Nat.mod_eq_of_lt hn, Nat.shiftRight_eq_div_pow, hp]; omega
theorem w_rot (x n : UInt32) (p q : Nat) (hn : n.toNat < 32) (hm : (32 - n).toNat < 32) (hp : 2 ^ (32 - n).toNat = p) (hq : 2 ^ n.toNat = q) :
    bits .or .u32 ((x.toNat : Int) * (p : Int) % 4294967296) ((x.toNat : Int) / (q : Int)) = ((rot x n).toNat : Int) := by
  rw [w_shl x (32 - n) p hm hp, w_shr x n q hn hq, w_or]; rfl
theorem u8w (c : UInt8) : IntKind.u32.wrap (c.toNat : Int) = (c.toUInt32.toNat : Int) := by
  have := c.toNat_lt
  rw [IntKind.wrap_u32', UInt8.toNat_toUInt32]; omega
theorem wshl24 (x : UInt32) : IntKind.u32.wrap ((x.toNat : Int) * (16777216 : Int)) = ((x <<< 24).toNat : Int) := by
  rw [IntKind.wrap_u32']; exact w_shl x 24 16777216 (by decide) (by decide)
theorem wshl16 (x : UInt32) : IntKind.u32.wrap ((x.toNat : Int) * (65536 : Int)) = ((x <<< 16).toNat : Int) := by
  rw [IntKind.wrap_u32']; exact w_shl x 16 65536 (by decide) (by decide)
theorem wshl8 (x : UInt32) : IntKind.u32.wrap ((x.toNat : Int) * (256 : Int)) = ((x <<< 8).toNat : Int) := by
  rw [IntKind.wrap_u32']; exact w_shl x 8 256 (by decide) (by decide)
theorem w_wadd (x y : UInt32) : IntKind.u32.wrap ((x.toNat : Int) + (y.toNat : Int)) = ((x + y).toNat : Int) := by
  rw [IntKind.wrap_u32', w_add]
theorem wshr3 (x : UInt32) : (x.toNat : Int) / (8 : Int) = ((x >>> 3).toNat : Int) := w_shr x 3 8 (by decide) (by decide)
theorem wshr10 (x : UInt32) : (x.toNat : Int) / (1024 : Int) = ((x >>> 10).toNat : Int) := w_shr x 10 1024 (by decide) (by decide)
end Go.Proofs.YtecacjddggljgaaDoor.Sm
namespace Go.Proofs.YtecacjddggljgaaDoor.Sm
open Go.RowKit
theorem ret_u32 {a b : Int} (h : a = b) : Ending.returned (.int .u32 a) = .returned (.int .u32 b) := by rw [h]
theorem rotr_2 (x : UInt32) (w : World) : Calls Tryd.prog 144 #[.int .u32 x.toNat, .int .i64 2] w fun e w' => e = .returned (.int .u32 (rot x 2).toNat) ∧ w' = w := by
  have hx := x.toNat_lt
  have h5 : bits .and .u64 (IntKind.u64.wrap (-2)) 31 = 30 := by decide
  go_enter Tryd.func144, Tryd.ntmps144
  go_wp2
  go_ret
  exact ⟨ret_u32 (w_rot x 2 1073741824 4 (by decide) (by decide) (by decide) (by decide)), rfl⟩
theorem rotr_13 (x : UInt32) (w : World) : Calls Tryd.prog 144 #[.int .u32 x.toNat, .int .i64 13] w fun e w' => e = .returned (.int .u32 (rot x 13).toNat) ∧ w' = w := by
  have hx := x.toNat_lt
  have h5 : bits .and .u64 (IntKind.u64.wrap (-13)) 31 = 19 := by decide
  go_enter Tryd.func144, Tryd.ntmps144
  go_wp2
  go_ret
  exact ⟨ret_u32 (w_rot x 13 524288 8192 (by decide) (by decide) (by decide) (by decide)), rfl⟩
theorem rotr_22 (x : UInt32) (w : World) : Calls Tryd.prog 144 #[.int .u32 x.toNat, .int .i64 22] w fun e w' => e = .returned (.int .u32 (rot x 22).toNat) ∧ w' = w := by
  have hx := x.toNat_lt
  have h5 : bits .and .u64 (IntKind.u64.wrap (-22)) 31 = 10 := by decide
  go_enter Tryd.func144, Tryd.ntmps144
  go_wp2
  go_ret
  exact ⟨ret_u32 (w_rot x 22 1024 4194304 (by decide) (by decide) (by decide) (by decide)), rfl⟩
theorem rotr_6 (x : UInt32) (w : World) : Calls Tryd.prog 144 #[.int .u32 x.toNat, .int .i64 6] w fun e w' => e = .returned (.int .u32 (rot x 6).toNat) ∧ w' = w := by
  have hx := x.toNat_lt
  have h5 : bits .and .u64 (IntKind.u64.wrap (-6)) 31 = 26 := by decide
  go_enter Tryd.func144, Tryd.ntmps144
  go_wp2
  go_ret
  exact ⟨ret_u32 (w_rot x 6 67108864 64 (by decide) (by decide) (by decide) (by decide)), rfl⟩
theorem rotr_11 (x : UInt32) (w : World) : Calls Tryd.prog 144 #[.int .u32 x.toNat, .int .i64 11] w fun e w' => e = .returned (.int .u32 (rot x 11).toNat) ∧ w' = w := by
  have hx := x.toNat_lt
  have h5 : bits .and .u64 (IntKind.u64.wrap (-11)) 31 = 21 := by decide
  go_enter Tryd.func144, Tryd.ntmps144
  go_wp2
  go_ret
  exact ⟨ret_u32 (w_rot x 11 2097152 2048 (by decide) (by decide) (by decide) (by decide)), rfl⟩
theorem rotr_25 (x : UInt32) (w : World) : Calls Tryd.prog 144 #[.int .u32 x.toNat, .int .i64 25] w fun e w' => e = .returned (.int .u32 (rot x 25).toNat) ∧ w' = w := by
  have hx := x.toNat_lt
  have h5 : bits .and .u64 (IntKind.u64.wrap (-25)) 31 = 7 := by decide
  go_enter Tryd.func144, Tryd.ntmps144
  go_wp2
  go_ret
  exact ⟨ret_u32 (w_rot x 25 128 33554432 (by decide) (by decide) (by decide) (by decide)), rfl⟩
theorem rotr_7 (x : UInt32) (w : World) : Calls Tryd.prog 144 #[.int .u32 x.toNat, .int .i64 7] w fun e w' => e = .returned (.int .u32 (rot x 7).toNat) ∧ w' = w := by
  have hx := x.toNat_lt
  have h5 : bits .and .u64 (IntKind.u64.wrap (-7)) 31 = 25 := by decide
  go_enter Tryd.func144, Tryd.ntmps144
  go_wp2
  go_ret
  exact ⟨ret_u32 (w_rot x 7 33554432 128 (by decide) (by decide) (by decide) (by decide)), rfl⟩
theorem rotr_18 (x : UInt32) (w : World) : Calls Tryd.prog 144 #[.int .u32 x.toNat, .int .i64 18] w fun e w' => e = .returned (.int .u32 (rot x 18).toNat) ∧ w' = w := by
  have hx := x.toNat_lt
  have h5 : bits .and .u64 (IntKind.u64.wrap (-18)) 31 = 14 := by decide
  go_enter Tryd.func144, Tryd.ntmps144
  go_wp2
  go_ret
  exact ⟨ret_u32 (w_rot x 18 16384 262144 (by decide) (by decide) (by decide) (by decide)), rfl⟩
theorem rotr_17 (x : UInt32) (w : World) : Calls Tryd.prog 144 #[.int .u32 x.toNat, .int .i64 17] w fun e w' => e = .returned (.int .u32 (rot x 17).toNat) ∧ w' = w := by
  have hx := x.toNat_lt
  have h5 : bits .and .u64 (IntKind.u64.wrap (-17)) 31 = 15 := by decide
  go_enter Tryd.func144, Tryd.ntmps144
  go_wp2
  go_ret
  exact ⟨ret_u32 (w_rot x 17 32768 131072 (by decide) (by decide) (by decide) (by decide)), rfl⟩
theorem rotr_19 (x : UInt32) (w : World) : Calls Tryd.prog 144 #[.int .u32 x.toNat, .int .i64 19] w fun e w' => e = .returned (.int .u32 (rot x 19).toNat) ∧ w' = w := by
  have hx := x.toNat_lt
  have h5 : bits .and .u64 (IntKind.u64.wrap (-19)) 31 = 13 := by decide
  go_enter Tryd.func144, Tryd.ntmps144
  go_wp2
  go_ret
  exact ⟨ret_u32 (w_rot x 19 8192 524288 (by decide) (by decide) (by decide) (by decide)), rfl⟩
end Go.Proofs.YtecacjddggljgaaDoor.Sm
namespace Go.Proofs.YtecacjddggljgaaDoor.Sm
open Go.RowKit
/-- Words as cells. -/
def wcells (l : List UInt32) : List Value := l.map fun x => Value.int .u32 x.toNat
def S8.list (s : S8) : List UInt32 := [s.a, s.b, s.c, s.d, s.e, s.f, s.g, s.h]
/-- 64 words lie in a block. -/
def WW (w : World) (b : Nat) (ws : List UInt32) : Prop := ∀ t : Nat, t < 64 → w.cell? ⟨b, t, none⟩ = some (.int .u32 (ws.getD t 0).toNat)
theorem wcells_getD (l : List UInt32) (t : Nat) (h : t < l.length) : (wcells l).toArray[t]? = some (.int .u32 (l.getD t 0).toNat) := by
  simp [wcells, List.getD, h]
theorem WW_of_block {w : World} {b : Nat} {ws : List UInt32} {ty : TypeId} {fr : Nat × Nat} (hl : ws.length = 64) (h : w.heap[b]? = some (.cells (wcells ws).toArray ty fr)) : WW w b ws := by
  intro t ht
  rw [cell_of_row w b t _ ty fr h]
  exact wcells_getD ws t (by omega)
theorem WW.below {w w' : World} {b B : Nat} {ws : List UInt32} (h : WW w b ws) (hb : Below B w w') (hB : b < B) : WW w' b ws := fun t ht => by
  rw [World.cell?_of_block (hb.block b hB)]; exact h t ht
theorem bel_drewN {B : Nat} {w w' : World} (h : Below B w w') : ∀ n, Below B w (w'.drewN n)
  | 0 => h
  | n + 1 => (bel_drewN h n).drew
theorem size141 : (Tryd.prog.info? 199).map (·.size) = some 8 := by kernel_rfl
theorem wcells_one (l : List UInt32) : (wcells l).toArray.all (·.oneCell') = true :=
  all_oneCell_toArray (fun v hv => by simp only [wcells, List.mem_map] at hv; obtain ⟨x, _, rfl⟩ := hv; rfl)
theorem heap_alloc_get (w : World) (o : Obj) (i : Nat) : (w.alloc o).heap[i]? = if i = w.heap.size then some o else w.heap[i]? := by
  show (w.heap.push o)[i]? = _
  rw [Array.getElem?_push]
end Go.Proofs.YtecacjddggljgaaDoor.Sm
