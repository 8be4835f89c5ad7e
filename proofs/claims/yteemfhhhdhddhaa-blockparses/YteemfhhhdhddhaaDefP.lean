/-
  What the closure that block.Parse defers does: contracts over this translation.
-/
import Derived.Test.YteemfhhhdhddhaaCur
import Derived.Defers
import Derived.Recover
namespace Go.Proofs.Yteemfhhhdhddhaa
open Go.RowKit
def nbR : List PanicEntry := [{ v := .iface 79 (.agg #[]), recovered := true }]
theorem catch_idle (p : Addr) (w : World) :
    CallsD Try.prog 64 #[.pointer (some p)] .returning w fun e u' w' => e = .returned (.tuple #[]) ∧ u' = .returning ∧ w' = w := by
  refine callsD_of_wpS Try.func64 rfl fun c₀ cs hu => ?_
  apply wpS_seq
  apply wpS_region
  simp [wpOpsS, go_sem, recoverD, hu, Try.ntmps64, Exit.thenS]
  refine wpS_of_wp ?_
  go_wp2
  cases c₀
  simp_all [bodyPostS, results, Try.results64]
set_option maxRecDepth 100000 in
set_option maxHeartbeats 1000000 in
theorem catch_panicking (p : Addr) (x : Int) (w : World) (hc : w.cell? p = some (.int .i64 x)) (hz : w.frozen? p = false) :
    CallsD Try.prog 64 #[.pointer (some p)] (.panicking nb) w fun e u' w' => e = .returned (.tuple #[]) ∧ u' = .panicking nbR ∧ w' = (w.alloc (.cells #[] 79)).setCell p (.int .i64 2) := by
  unfold nb nbR
  have hta : ∀ w : World, (Instr.typeAssert (.iface 79 (.agg #[])) 20 79 true).run Try.prog w = .ok (.tuple #[.agg #[], .bool true]) w := fun _ => by kernel_rfl
  have hlt : p.block < w.heap.size := World.block_lt_of_cell? w p hc
  have hz' : ∀ o, (w.alloc o).frozen? p = false := fun o => by rw [Below.frozen (bel_alloc w o) hlt]; exact hz
  have hc' : ∀ o, (w.alloc o).cell? p = some (.int .i64 x) := fun o => by rw [Below.cell (bel_alloc w o) hlt]; exact hc
  clear hlt
  refine callsD_of_wpS Try.func64 rfl fun c₀ cs hu => ?_
  apply wpS_seq
  apply wpS_region
  simp [wpOpsS, go_sem, recoverD, hu, Try.ntmps64, Exit.thenS]
  refine wpS_of_wp ?_
  go_wp2
  simp [bodyPostS, results, Try.results64]
theorem heap_set1 (w : World) (g : Nat) (a v : Value) (t : TypeId) (hg : w.heap[g]? = some (.cells #[a] t (0, 0))) : (w.setCell ⟨g, 0, none⟩ v).heap[g]? = some (.cells #[v] t (0, 0)) := by
  unfold World.setCell
  simp only [Array.getElem?_modify, if_pos, hg, Option.map_some]
  rfl
/-- What block.Parse answers, if list answers so. -/
theorem parse_of_list (ao : Option Addr) (n c : Nat) (w : World) (R : Ending → World → Prop)
    (hl : ∀ o, Calls Try.prog 65 #[.slice ao n c] (w.alloc o) fun e w' => Below (w.heap.size + 1) (w.alloc o) w' ∧ ((e = .panicked nb ∧ ∀ w'', Below w.heap.size w w'' → R (.returned (.tuple #[.slice none 0 0, .int .i64 2])) w'') ∨ ∃ v, e = .returned v ∧ ∀ w'', (∀ k, k ≠ w.heap.size → w''.heap[k]? = w'.heap[k]?) → Below w.heap.size w w'' → R (.returned (.tuple #[v, .int .i64 0])) w'')) :
    Calls Try.prog 40 #[.slice ao n c] w R := by
  have hmf : ∀ (fn : Fn) (first cap : Array Value) (w : World), (Instr.makeFunc fn first cap).run Try.prog w = .ok (.func fn first cap) w := fun _ _ _ _ => rfl
  go_enter_defers Try.func40, Try.ntmps40
  go_wp2_with fail
  refine (hl _).mono ?_
  rintro e w2 ⟨hb2, h⟩
  have hblk : w2.heap[w.heap.size]? = some (.cells #[.int .i64 0] 27 (0, 0)) := by rw [hb2.block _ (Nat.lt_succ_self _), heap_alloc_new]
  have hcl : w2.cell? ⟨w.heap.size, 0, none⟩ = some (.int .i64 0) := by simp [World.cell?, hblk]
  have hfz : w2.frozen? ⟨w.heap.size, 0, none⟩ = false := by simp [World.frozen?, hblk]
  have HB : Hid (Below w.heap.size w w2) := (bel_alloc w _).trans (hb2.mono (Nat.le_succ _))
  have HBK : Hid _ := hblk
  have HH : Hid _ := h
  clear hb2 h hblk
  rcases HH.out with ⟨rfl, h⟩ | ⟨v, rfl, h⟩
  · have H1 : Hid _ := h
    clear h HH
    go_wp2_with fail
    refine leaves_cons (f := 64) (args := #[.pointer (some ⟨w.heap.size, 0, none⟩)]) (by simp) (by simp [go_sem]) ?_
    refine (catch_panicking ⟨w.heap.size, 0, none⟩ 0 _ hcl hfz).mono ?_
    rintro e u' w'' ⟨rfl, rfl, rfl⟩
    have hlt : w.heap.size < w2.heap.size := (Array.getElem?_eq_some_iff.1 HBK.out).1
    have hN : ((w2.alloc (Obj.cells #[] 79)).setCell ⟨w.heap.size, 0, none⟩ (.int .i64 2)).cell? ⟨w.heap.size, 0, none⟩ = some (.int .i64 2) := by
      have h3 : (w2.alloc (Obj.cells #[] 79)).heap[w.heap.size]? = some (.cells #[.int .i64 0] 27 (0, 0)) := by rw [Below.heap_alloc _ _ _ hlt]; exact HBK.out
      have h4 := heap_set1 (w2.alloc (Obj.cells #[] 79)) w.heap.size (.int .i64 0) (.int .i64 2) 27 h3
      simp [World.cell?, h4]
    have hR := H1.out ((w2.alloc (Obj.cells #[] 79)).setCell ⟨w.heap.size, 0, none⟩ (.int .i64 2)) ((HB.out.alloc HB.out.size _).setCell (Nat.le_refl _) _)
    simp [Leaves, settle, results, Try.results40, go_sem, nbR, hN, hR]
  · have H1 : Hid _ := h
    clear h HH
    go_wp2_with fail
    refine leaves_cons (f := 64) (args := #[.pointer (some ⟨w.heap.size, 0, none⟩)]) (by simp) (by simp [go_sem]) ?_
    refine (catch_idle ⟨w.heap.size, 0, none⟩ _).mono ?_
    rintro e u' w'' ⟨rfl, rfl, rfl⟩
    have hN : (w2.setCell ⟨w.heap.size, 0, none⟩ (.int .i64 0)).cell? ⟨w.heap.size, 0, none⟩ = some (.int .i64 0) := by
      have h4 := heap_set1 w2 w.heap.size (.int .i64 0) (.int .i64 0) 27 HBK.out
      simp [World.cell?, h4]
    have hR := H1.out (w2.setCell ⟨w.heap.size, 0, none⟩ (.int .i64 0)) (fun k hk => Below.heap_setCell _ _ _ _ hk) (HB.out.setCell (Nat.le_refl _) _)
    simp [Leaves, settle, results, Try.results40, go_sem, hN, hR]
end Go.Proofs.Yteemfhhhdhddhaa
