/-
  The statement FrameTurned, of any number and byte.
-/
import Derived.Test.YtaejcclepahefaaTurnedW
namespace Go.Proofs.Ytaejcclepahefaa
open Go.RowKit
theorem turned_any (a b : SV) (at0 t : Int) (w : World) (h1 : Bytes w a.ao a.n a.bs) (h2 : Bytes w b.ao b.n b.bs) (f1 : a.fine) (f2 : b.fine) (hat : (Lit.int .i64 at0).wf = true) (ht : (Lit.int .u8 t).wf = true) :
    Calls Try.prog 14 #[.slice a.ao a.n a.c, .slice b.ao b.n b.c, .int .i64 at0, .int .u8 t] w fun e w' => e = .returned (.bool true) ∧ Below w.heap.size w w' := by
  have hb := bounds_i64 hat
  rw [u8_nat ht]; exact turned_walk a b at0 _ w h1 h2 f1 f2 (by omega)
end Go.Proofs.Ytaejcclepahefaa
