/-
  What math/bits.Len64 and codec.Size answer: contracts over this translation.
-/
import Derived.Test.YtlomimhildbkoaaProg
import Derived.WalkKit
import Derived.WalkSpells
import Derived.WalkLawsBesides
import Derived.Lib.Walk
import Derived.Test.YtlomimhildbkoaaMath
namespace Go.Proofs.Ytlomimhildbkoaa
open Go.RowKit

theorem tab_at (y : Int) (h : y.toNat < Lib.len8tab.size) (h0 : 0 ≤ y) (h1 : y < 256) : ((Lib.len8tab[y.toNat]'h).toNat : Int) = (Lib.bitLen y.toNat : Int) := by
  rw [← Lib.len8_of y h0 (by omega), Lib.len8, ByteArray.getElem?_lt' _ _ h, Option.getD_some]

theorem wrap64_small (n : Int) (h0 : 0 ≤ n) (h1 : n ≤ 1000) : wrap64 n = n := by
  unfold wrap64
  omega

theorem len_way (k p : Nat) (x y : Int) (h : y.toNat < Lib.len8tab.size) (h0 : 0 ≤ y) (h1 : y < 256) (hp : 2 ^ k = p) (hk : k ≤ 64) (hx0 : 0 ≤ x) (hx1 : x ≤ 18446744073709551615) (hpx : (p : Int) ≤ x)
    (hy : y.toNat = x.toNat / p) : wrap64 ((k : Int) + wrap64 ((Lib.len8tab[y.toNat]'h).toNat : Int)) = (Lib.bitLen x.toNat : Int) := by
  have hb := Lib.bitLen_le8' y h0 (by omega)
  have hin := wrap64_small (Lib.bitLen y.toNat : Int) (by omega) (by omega)
  rw [tab_at y h h0 h1, hin, wrap64_small _ (by omega) (by omega), Lib.bitLen_shift k x.toNat (by omega) (by omega), hp, hy]
  omega
theorem len_way0 (x : Int) (h : x.toNat < Lib.len8tab.size) (h0 : 0 ≤ x) (h1 : x < 256) : wrap64 (wrap64 ((Lib.len8tab[x.toNat]'h).toNat : Int)) = (Lib.bitLen x.toNat : Int) := by
  have hb := Lib.bitLen_le8' x h0 (by omega)
  have hin := wrap64_small (Lib.bitLen x.toNat : Int) (by omega) (by omega)
  rw [tab_at x h h0 h1, hin, hin]

theorem ret_i64 {a b : Int} (h : a = b) : Ending.returned (.int .i64 a) = .returned (.int .i64 b) := by rw [h]

set_option maxHeartbeats 1000000 in
set_option maxRecDepth 100000 in
theorem len64_any (x : Int) (w : World) (h0 : 0 ≤ x) (h1 : x ≤ 18446744073709551615) :
    Calls Try.prog 25 #[.int .u64 x] w fun e w' => e = .returned (.int .i64 (Lib.bitLen x.toNat)) ∧ w' = w := by
  have hs8 := Lib.len8tab_size
  go_enter Try.func25, Try.ntmps25
  go_wp2
  all_goals go_ret
  · exact ⟨ret_i64 (len_way 56 72057594037927936 x _ _ (by omega) (by omega) (by decide) (by omega) h0 h1 (by omega) (by omega)), rfl⟩
  · exact ⟨ret_i64 (len_way 48 281474976710656 x _ _ (by omega) (by omega) (by decide) (by omega) h0 h1 (by omega) (by omega)), rfl⟩
  · exact ⟨ret_i64 (len_way 40 1099511627776 x _ _ (by omega) (by omega) (by decide) (by omega) h0 h1 (by omega) (by omega)), rfl⟩
  · exact ⟨ret_i64 (len_way 32 4294967296 x _ _ (by omega) (by omega) (by decide) (by omega) h0 h1 (by omega) (by omega)), rfl⟩
  · exact ⟨ret_i64 (len_way 24 16777216 x _ _ (by omega) (by omega) (by decide) (by omega) h0 h1 (by omega) (by omega)), rfl⟩
  · exact ⟨ret_i64 (len_way 16 65536 x _ _ (by omega) (by omega) (by decide) (by omega) h0 h1 (by omega) (by omega)), rfl⟩
  · exact ⟨ret_i64 (len_way 8 256 x _ _ (by omega) (by omega) (by decide) (by omega) h0 h1 (by omega) (by omega)), rfl⟩
  · exact ⟨ret_i64 (len_way0 x _ h0 (by omega)), rfl⟩

theorem size_num (v : Nat) (hv : v < 18446744073709551616) : ((Lib.bitLen (v ||| 1) : Int) + 6) / 7 = sz v := by
  rw [← sz_bits 10 v (by omega) hv]
  omega

set_option maxHeartbeats 400000 in
theorem size_any (v : Nat) (w : World) (hv : v < 18446744073709551616) :
    Calls Try.prog 16 #[.int .u64 v] w fun e w' => e = .returned (.int .i64 (sz v)) ∧ w' = w := by
  have hb := Lib.bitLen_le (v ||| 1) 64 (by omega) (or_one_lt v hv)
  have hlt := or_one_lt v hv
  go_enter Try.func16, Try.ntmps16
  go_wp2_with fail
  rw [show bits .or .u64 (v : Int) 1 = ((v ||| 1 : Nat) : Int) from u64_or_nat v 1 hv (by decide)]
  refine (len64_any _ _ (by omega) (by omega)).mono ?_
  rintro e w' ⟨rfl, rfl⟩
  rw [Int.toNat_natCast]
  go_wp2
  go_ret
  exact ⟨ret_i64 (size_num v hv), rfl⟩
end Go.Proofs.Ytlomimhildbkoaa
