/-
  Put of a mem: what it answers.
-/
import Derived.Test.YtaamekkbgaeafaaDoorPartJ
import Derived.Test.YtaamekkbgaeafaaDoorRefF
namespace Go.Proofs.YtaamekkbgaeafaaDoor
open Go.RowKit
set_option linter.unusedSectionVars false
variable [Inhabited E] [DecidableEq E]
/-- What Put answers, and the mem behind it. -/
def putN (A : Mm) (e : E) : Int := if rightB e = false ∨ e.seq ≤ A.last then 1 else if isIn e.key A.es = false ∧ 64 ≤ A.es.length then 3 else 0
def putA (A : Mm) (e : E) : Mm := if putN A e = 0 then ⟨insS A.es e, e.seq, linkB A.ch e⟩ else A
theorem putN_zero {A : Mm} {e : E} (h : putN A e = 0) : rightB e = true ∧ A.last < e.seq ∧ (isIn e.key A.es = true ∨ A.es.length < 64) := by
  unfold putN at h
  split at h
  · cases h
  · rename_i h1
    split at h
    · cases h
    · rename_i h2
      refine ⟨by cases hr : rightB e <;> simp_all, by omega, ?_⟩
      cases hi : isIn e.key A.es
      · exact .inr (by simp [hi] at h2; omega)
      · exact .inl rfl
theorem ins_form {A : Mm} (hw : A.wf) {e : E} (hs : A.last < e.seq) : insS A.es e = if isIn e.key A.es then A.es.set (belowN e.key A.es) e else insL (belowN e.key A.es) e A.es := by
  rw [insS_place e hw.ks]
  by_cases hi : isIn e.key A.es = true
  · rw [if_pos hi, if_pos hi]
    have h2 := ks_isIn e.key hw.ks
    rw [hi] at h2
    have h3 : belowN e.key A.es < A.es.length := by
      by_cases hl : belowN e.key A.es < A.es.length
      · exact hl
      · rw [decide_eq_false hl] at h2; cases h2
    rw [if_pos]
    have := hw.seqs A.es[belowN e.key A.es]! (by rw [getElem!_pos A.es _ h3]; exact List.getElem_mem h3)
    omega
  · rw [if_neg hi, if_neg hi, insL]; simp
theorem putA_wf {A : Mm} (hw : A.wf) (e : E) : (putA A e).wf := by
  unfold putA
  split
  · rename_i h
    obtain ⟨h1, h2, h3⟩ := putN_zero h
    refine ⟨ks_insS e hw.ks, ?_, linkB_len _ _, fun x hx => ?_, fun x hx => ?_⟩
    · show (insS A.es e).length ≤ 64
      rw [ins_form hw h2]
      have := hw.len
      split
      · rw [List.length_set]; exact this
      · rename_i hi
        rw [insL_len]
        rcases h3 with h3 | h3
        · exact absurd h3 hi
        · omega
    · rcases insS_mem hx with rfl | hx
      · exact Int.le_refl _
      · have := hw.seqs x hx
        show x.seq ≤ e.seq
        omega
    · rcases insS_mem hx with rfl | hx
      · exact h1
      · exact hw.right x hx
  · exact hw
end Go.Proofs.YtaamekkbgaeafaaDoor
