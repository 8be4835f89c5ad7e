/-
  What entry.Fold answers: a contract over this translation, over a sort that is given.
-/
import Derived.Test.YteggjenncmjfmaaEnts
import Derived.BigQuiet
namespace Go.Proofs.Yteggjenncmjfmaa
open Go.RowKit Go.Sort Go.Shelf
set_option linter.unusedSectionVars false
variable [Inhabited E]
/-- The cells of entries lie in a slice. -/
def EntsV (w : World) (ao : Option Addr) (n : Nat) (es : List E) : Prop := es.length = n ∧ (0 < n → ∃ b off, ao = some ⟨b, off, none⟩ ∧ Ents w b off es)
theorem bel_cell {w w' : World} {B : Nat} {a : Addr} {v : Value} (h : Below B w w') (hB : w.heap.size ≤ B) (hc : w.cell? a = some v) : w'.cell? a = some v := by
  rw [← hc]
  exact World.cell?_of_block (h.block a.block (by have := World.block_lt_of_cell? w a hc; omega))
theorem ents_cell {w : World} {g : Nat} {l : List E} (h : Ents w g 0 l) (i c : Nat) (hi : i < l.length) (hc : c < 4) : w.cell? ⟨g, i * 4 + c, none⟩ = some (encE l[i]!)[c]! := by
  have := h (i * 4 + c) _ ((flatE_at l i c hi hc).trans (encE_get! _ c hc))
  rwa [Nat.zero_add] at this
theorem clone_none (ao : Option Addr) (c : Nat) (w : World) :
    Calls Try.prog 25 #[.slice ao 0 c] w fun e w' => ∃ ao' c', e = .returned (.slice ao' 0 c') ∧ Below w.heap.size w w' := by
  have q35 : ∀ (w : World) (a : Option Addr) (n c n' c' : Nat), (binOp .eql 25 (.slice a n c) (.slice none n' c')).run Try.prog w = .ok (.bool a.isNone) w := fun w a n c n' c' => Lib.run_eql_slice_nil w _ _ a n c n' c' Try.underlying25
  cases ao with
  | none =>
    go_enter Try.func25, Try.ntmps25
    go_wp2
    go_ret
    exact ⟨_, _, rfl, Below.refl _ _⟩
  | some a =>
    go_enter Try.func25, Try.ntmps25
    go_wp2
    go_ret
    exact ⟨_, _, rfl, bel_alloc _ _⟩
end Go.Proofs.Yteggjenncmjfmaa
