/-
  Two mems beside one another.
-/
import Derived.Test.YtaamekkbgaeafaaDoorFldW
namespace Go.Proofs.YtaamekkbgaeafaaDoor
open Go.RowKit
set_option linter.unusedSectionVars false
set_option linter.unusedVariables false
variable [Inhabited E] [DecidableEq E]
structure Two (B : Nat) (w : World) (ga gb : Nat) (A C : Mm) (oa ob : Nat → Prop) : Prop where
  ma : MemAt oa w ga A
  mb : MemAt ob w gb C
  la : ∀ k, oa k → B ≤ k ∧ k < w.heap.size
  lb : ∀ k, ob k → B ≤ k ∧ k < w.heap.size
  ap : ∀ k, oa k → ¬ ob k
theorem Two.below {B ga gb : Nat} {w w' : World} {A C : Mm} {oa ob : Nat → Prop} (h : Two B w ga gb A C oa ob) (hb : Below w.heap.size w w') : Two B w' ga gb A C oa ob :=
  ⟨h.ma.grown hb, h.mb.grown hb, fun k hk => ⟨(h.la k hk).1, Nat.lt_of_lt_of_le (h.la k hk).2 hb.size⟩, fun k hk => ⟨(h.lb k hk).1, Nat.lt_of_lt_of_le (h.lb k hk).2 hb.size⟩, h.ap⟩
/-- Blocks of neither turn. -/
theorem Two.far {B ga gb : Nat} {w w' : World} {A C : Mm} {oa ob : Nat → Prop} (h : Two B w ga gb A C oa ob) (hs : w'.heap.size = w.heap.size) (hb : ∀ k, oa k ∨ ob k → w'.heap[k]? = w.heap[k]?) : Two B w' ga gb A C oa ob :=
  ⟨h.ma.keep (fun k _ e => hb k (.inl e)), h.mb.keep (fun k _ e => hb k (.inr e)), fun k hk => by rw [hs]; exact h.la k hk, fun k hk => by rw [hs]; exact h.lb k hk, h.ap⟩
theorem Two.stepA {B ga gb : Nat} {w w' : World} {A A' C : Mm} {oa ob : Nat → Prop} (h : Two B w ga gb A C oa ob) (hm : MemAt (grow oa w) w' ga A') (ho : Only oa w w') (hB : B ≤ w.heap.size) :
    ∃ oa', Two B w' ga gb A' C oa' ob ∧ ∀ k, k < w.heap.size → ¬ oa k → ¬ oa' k := by
  refine ⟨here (grow oa w) w', ⟨hm.now, h.mb.keep (fun k hk e => ho.block k hk (fun e2 => h.ap k e2 e)), fun k hk => ⟨?_, hk.2⟩, fun k hk => ⟨(h.lb k hk).1, Nat.lt_of_lt_of_le (h.lb k hk).2 ho.size⟩, fun k hk hk2 => ?_⟩, fun k hk hn hk2 => ?_⟩
  · rcases hk.1 with q | q
    · exact (h.la k q).1
    · omega
  · rcases hk.1 with q | q
    · exact h.ap k q hk2
    · have := (h.lb k hk2).2; omega
  · rcases hk2.1 with q | q
    · exact hn q
    · omega
theorem Two.stepB {B ga gb : Nat} {w w' : World} {A C C' : Mm} {oa ob : Nat → Prop} (h : Two B w ga gb A C oa ob) (hm : MemAt (grow ob w) w' gb C') (ho : Only ob w w') (hB : B ≤ w.heap.size) :
    ∃ ob', Two B w' ga gb A C' oa ob' ∧ ∀ k, k < w.heap.size → ¬ ob k → ¬ ob' k := by
  refine ⟨here (grow ob w) w', ⟨h.ma.keep (fun k hk e => ho.block k hk (fun e2 => h.ap k e e2)), hm.now, fun k hk => ⟨(h.la k hk).1, Nat.lt_of_lt_of_le (h.la k hk).2 ho.size⟩, fun k hk => ⟨?_, hk.2⟩, fun k hk hk2 => ?_⟩, fun k hk hn hk2 => ?_⟩
  · rcases hk.1 with q | q
    · exact (h.lb k q).1
    · omega
  · rcases hk2.1 with q | q
    · exact h.ap k hk q
    · have := (h.la k hk).2; omega
  · rcases hk2.1 with q | q
    · exact hn q
    · omega
/-- Two mems that were written alike. -/
def Like (A C : Mm) : Prop := A.es = C.es ∧ A.ch = C.ch ∧ A.last = max 1 C.last ∧ 0 ≤ C.last
theorem like_put {A C : Mm} (h : Like A C) {e : E} (hs : A.last < e.seq) : putN A e = putN C e ∧ Like (putA A e) (putA C e) := by
  obtain ⟨h1, h2, h3, h4⟩ := h
  have hs2 : C.last < e.seq := by omega
  have hp : putN A e = putN C e := by
    unfold putN
    have c1 : (rightB e = false ∨ e.seq ≤ A.last) ↔ (rightB e = false ∨ e.seq ≤ C.last) := by
      constructor
      · rintro (q | q)
        · exact .inl q
        · omega
      · rintro (q | q)
        · exact .inl q
        · omega
    rw [h1]
    by_cases q : rightB e = false ∨ e.seq ≤ C.last
    · rw [if_pos q, if_pos (c1.2 q)]
    · rw [if_neg q, if_neg (fun z => q (c1.1 z))]
  refine ⟨hp, ?_⟩
  unfold putA
  rw [hp]
  split
  · exact ⟨by rw [h1], by rw [h2], by show e.seq = max 1 e.seq; omega, by show 0 ≤ e.seq; omega⟩
  · exact ⟨h1, h2, h3, h4⟩
theorem put_again (C : Mm) (k v : ByteArray) (d : Bool) : putN C ⟨k, v, d, C.last⟩ = 1 ∧ putA C ⟨k, v, d, C.last⟩ = C := by
  have h : putN C ⟨k, v, d, C.last⟩ = 1 := by unfold putN; rw [if_pos (.inr (Int.le_refl _))]
  exact ⟨h, by rw [putA, if_neg (by rw [h]; decide)]⟩
theorem put_bad {C : Mm} {e : E} (h : putN C e ≠ 0) : putA C e = C := by rw [putA, if_neg h]
theorem put_last_le {C : Mm} {e : E} (h : C.last ≤ e.seq) : (putA C e).last ≤ e.seq := by
  unfold putA
  split
  · exact Int.le_refl _
  · exact h
end Go.Proofs.YtaamekkbgaeafaaDoor
