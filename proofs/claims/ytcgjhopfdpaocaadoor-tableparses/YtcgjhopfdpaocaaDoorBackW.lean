/-
  The statement BlockBack, walked.
-/
import Derived.Test.YtcgjhopfdpaocaaDoorPartBB
namespace Go.Proofs.YtcgjhopfdpaocaaDoor
open Go.RowKit Go.Sort Go.Shelf
set_option linter.unusedSectionVars false
variable [Inhabited E] [DecidableEq E]
theorem par_of {l : List E} (hf : fitB l = true) {e : Ending} {w' : World} (h : ParSays (blockB l) e w') : ∃ ao c, e = .returned (.tuple #[.slice ao l.length c, .int .i64 0]) ∧ EntsV w' ao l.length l := by
  rcases h with ⟨_, hno⟩ | ⟨l0, ao, c, he, hIB, hEV, _, _⟩
  · exact absurd rfl (hno l hf)
  · obtain rfl := hIB.2.2 l hf rfl
    exact ⟨ao, c, he, hEV⟩
theorem ents_cells {w : World} {ao : Option Addr} {l p : Nat} {fs : List E} (h : EntsV w ao l fs) (hp : p < l) {k v : ByteArray} {d : Bool} {q : Int} (hx : fs[p]! = ⟨k, v, d, q⟩) (b off : Nat) (hao : ao = some ⟨b, off, none⟩) :
    w.cell? ⟨b, off + p * 4, none⟩ = some (.string k) ∧ w.cell? ⟨b, off + p * 4 + 1, none⟩ = some (.string v) ∧ w.cell? ⟨b, off + p * 4 + 2, none⟩ = some (.bool d) ∧ w.cell? ⟨b, off + p * 4 + 3, none⟩ = some (.int .i64 q) := by
  obtain ⟨b', off', h1, h2⟩ := h.2 (by omega)
  rw [hao] at h1
  cases h1
  exact ents_four h2 p (by rw [h.1]; exact hp) hx
end Go.Proofs.YtcgjhopfdpaocaaDoor
