/-
  sort.Search at this translation (function 51), its laying.
-/
import Derived.Test.YtaamekkbgaeafaaDoorProg
import Derived.Shelf.SlSorted.Search
namespace Go.Proofs
open Go.Shelf
def Tryd.seaL_ren : Go.Shelf.Ren := ⟨fun | 16 => 51 | n => n, fun | 3 => 3 | 4 => 4 | 35 => 53 | 38 => 74 | n => n, fun | n => n⟩
theorem Tryd.seaL : Go.Proofs.SlLaysO.n16 Tryd.prog Tryd.seaL_ren := {
  mixed := by kernel_rfl
  f16 := Tryd.func51.trans (congrArg some (by kernel_rfl))
  t3 := Tryd.underlying3
  a3 := Tryd.isAgg3
  z3 := Tryd.sizeOf3
  v3 := Tryd.zeroValue3
  t4 := Tryd.underlying4
  a4 := Tryd.isAgg4
  z4 := Tryd.sizeOf4
  v4 := Tryd.zeroValue4
  t35 := Tryd.underlying53
  a35 := Tryd.isAgg53
  z35 := Tryd.sizeOf53
  v35 := Tryd.zeroValue53
  t38 := Tryd.underlying74
  a38 := Tryd.isAgg74
  z38 := Tryd.sizeOf74
  v38 := Tryd.zeroValue74 }
end Go.Proofs
