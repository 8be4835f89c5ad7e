/-
  Digests compared and loaded: laws over this translation.
-/
import Derived.Test.YtiimmknnlciljaaDoorSKeptCap
import Derived.Lib.SlBytesConst
import Derived.Stop.BytesEq
namespace Go.Proofs.YtiimmknnlciljaaDoor.Sm
open Go.RowKit
set_option maxRecDepth 100000 in
theorem guard24 : Tryd.prog.eqGuardType Tryd.prog.depth 32 = false := by kernel_rfl
theorem sizeOf5 (w : World) : (sizeOf 5).run Tryd.prog w = .ok 1 w := by
  obtain ⟨i0, hi, hz0, hz1, hz2⟩ := info_parts info5
  simp [sizeOf, typeInfo, hi, hz1]
theorem run_eq_dig (xs ys : List UInt8) (hx : xs.length = 32) (hy : ys.length = 32) (w : World) : (binOp .eql 32 (.agg (cellsOf xs).toArray) (.agg (cellsOf ys).toArray)).run Tryd.prog w = .ok (.bool (xs == ys)) w :=
  run_eql_bytes w 32 5 32 Tryd.underlying32 Tryd.underlying5 sizeOf5 xs ys hx hy
theorem run_ne_dig (xs ys : List UInt8) (hx : xs.length = 32) (hy : ys.length = 32) (w : World) : (binOp .neq 32 (.agg (cellsOf xs).toArray) (.agg (cellsOf ys).toArray)).run Tryd.prog w = .ok (.bool (!(xs == ys))) w := by
  rw [run_neq_struct, show (cellsOf xs).toArray = (xs.map Extern.Stop.cell).toArray from rfl, show (cellsOf ys).toArray = (ys.map Extern.Stop.cell).toArray from rfl, run_equalIn_bytes w 9998 32 5 32 Tryd.underlying32 Tryd.underlying5 sizeOf5 xs ys hx hy]
  rfl
theorem run_load24 {w : World} {q : Nat} {B : Array Value} {fr : Nat × Nat} (h : w.heap[q]? = some (.cells B 32 fr)) (hs : B.size = 32) : (Instr.loadAt 32 (.pointer (some ⟨q, 0, none⟩))).run Tryd.prog w = .ok (.agg B) w := by
  simp only [Instr.loadAt, Instr.sureAddr, Sem.run_bind, Sem.run_pure, Result.andThen_ok]
  exact run_loadVar_row _ _ 32 32 B fr _ h Tryd.underlying32 rfl (by rw [size24, hs])
theorem wpList_load_rowG {P : Program} {ops : Array Oper} {rest : List Oper} {o : Oper} {a : Act} {w : World} {Q : Exit → Act → World → Prop} (hw : Region.wanted o (yielded ops a.tmps) = true) (ty : TypeId) (x : Operand) (ho : o.op = .load ty x)
    (g : Nat) (hx : a.eval x = .pointer (some ⟨g, 0, none⟩)) (t : TypeId) (cs : Array Value) (fr : Nat × Nat) (d : TypeDesc) (hg : w.heap[g]? = some (.cells cs t fr))
    (hu : P.underlying ty = some d) (hd : (match d with | .struct _ | .array _ _ => true | _ => false) = true) (hi : (P.info? ty).map (·.size) = some cs.size)
    (h : wpList P ops Q rest (a.put o.dst (.agg cs)) w) : wpList P ops Q (o :: rest) a w :=
  BigFrame.wpList_want hw fun _ hK => wp_load_row ty x ho g hx t cs fr d hg hu hd hi (hK _ _ h)
end Go.Proofs.YtiimmknnlciljaaDoor.Sm
