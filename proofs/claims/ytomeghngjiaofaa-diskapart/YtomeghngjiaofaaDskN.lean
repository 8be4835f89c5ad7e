/-
  disk.New; write, where no crash is armed.
-/
import Derived.Test.YtomeghngjiaofaaDskC
namespace Go.Proofs.Ytomeghngjiaofaa
open Go.RowKit
/-- The struct's cells. -/
def dskC (cap used : Int) (m : Nat) (uo : Option Addr) (un uc : Nat) (down : Bool) (left keep : Int) : Array Value := #[.int .i64 cap, .int .i64 used, .map (some m), .slice uo un uc, .bool down, .int .i64 left, .int .i64 keep]
theorem new_any (k : Int) (c : Nat) (w : World) (hm : max k 0 = (c : Int)) : Calls Try.prog 12 #[.int .i64 k] w fun e w' => e = .returned (.pointer (some ⟨w.heap.size + 1, 0, none⟩)) ∧ w' = (w.alloc (.map #[] 0)).alloc (.cells (dskC c 0 w.heap.size none 0 0 false 0 0) 69) := by
  have hmm := @run_makeMap Try.prog
  go_enter Try.func12, Try.ntmps12
  go_wp2_with fail
  go_ret
  exact ⟨rfl, rfl⟩
theorem new_files (w : World) (o : Obj) : FilesAt ((w.alloc (.map #[] 0)).alloc o) w.heap.size 0 (fun _ => none) := (FilesAt.made w).kept (World.grownBy_alloc _ o none) (by simp)
theorem write_idle (g : Nat) (down : Bool) (left : Int) (ao : Option Addr) (n c b off : Nat) (ts : List ByteArray) (w : World) (hd : w.cell? ⟨g, 4, none⟩ = some (.bool down)) (hl : w.cell? ⟨g, 5, none⟩ = some (.int .i64 left)) (hi : ¬ 0 < left) (ht : ∀ j s, ts[j]? = some s → w.cell? ⟨b, off + j, none⟩ = some (.string s)) (hn : ts.length = n) (hao : 0 < n → ao = some ⟨b, off, none⟩) (hsm : n ≤ 1000) :
    Calls Try.prog 47 #[.pointer (some ⟨g, 0, none⟩), .slice ao n c] w fun e w' => e = .returned (.int .i64 (chk down ts)) ∧ w' = w := by
  have HC : Hid _ := dcheck_any g down ao n c b off ts w hd ht hn hao hsm
  clear ht hn hao hsm
  go_enter Try.func47, Try.ntmps47
  cases down with
  | true =>
    go_wp2_with fail
    refine Calls.mono HC.out ?_
    rintro e w2 ⟨rfl, rfl⟩
    go_wp2_with fail
    go_ret
    exact ⟨rfl, rfl⟩
  | false =>
    go_wp2_with fail
    refine Calls.mono HC.out ?_
    rintro e w2 ⟨rfl, rfl⟩
    go_wp2_with fail
    go_ret
    exact ⟨rfl, rfl⟩
end Go.Proofs.Ytomeghngjiaofaa
