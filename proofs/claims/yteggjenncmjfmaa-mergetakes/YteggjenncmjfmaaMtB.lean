/-
  One turn of the document's Merge: the first list that stands at the least key gives its entry, all that stand there are advanced.
-/
import Derived.Test.YteggjenncmjfmaaMtA
namespace Go.Proofs.Yteggjenncmjfmaa
open Go.RowKit
set_option linter.unusedSectionVars false
set_option linter.unusedVariables false
variable [Inhabited E] [DecidableEq E] [Inhabited RV]
def headK (k : ByteArray) : List E → Bool
  | [] => false
  | e :: _ => decide (e.key = k)
def takenN (k : ByteArray) (ls : List (List E)) (i : Nat) : Bool := (ls.take i).any (headK k)
def tailsN (k : ByteArray) (ls : List (List E)) (i : Nat) : List (List E) := (ls.take i).map (passK k) ++ ls.drop i
theorem taken_succ (k : ByteArray) (ls : List (List E)) (i : Nat) (h : i < ls.length) : takenN k ls (i + 1) = (takenN k ls i || headK k ls[i]!) := by
  unfold takenN
  rw [take_snoc ls i h, List.any_append]
  simp
theorem tails_len (k : ByteArray) (ls : List (List E)) (i : Nat) : (tailsN k ls i).length = ls.length := by
  unfold tailsN
  rw [List.length_append, List.length_map, List.length_take, List.length_drop]; omega
theorem tails_zero (k : ByteArray) (ls : List (List E)) : tailsN k ls 0 = ls := by unfold tailsN; simp
theorem tails_all (k : ByteArray) (ls : List (List E)) : tailsN k ls ls.length = ls.map (passK k) := by unfold tailsN; simp
theorem tails_at (k : ByteArray) (ls : List (List E)) (i : Nat) (hi : i < ls.length) : (tailsN k ls i)[i]! = ls[i]! ∧ tailsN k ls (i + 1) = (tailsN k ls i).set i (passK k ls[i]!) := by
  have hl : ((ls.take i).map (passK k)).length = i := by rw [List.length_map, List.length_take]; omega
  constructor
  · rw [getElem!_pos _ i (by rw [tails_len]; exact hi), getElem!_pos ls i hi]
    unfold tailsN
    rw [List.getElem_append_right (by omega), List.getElem_drop]
    congr 1
    omega
  · unfold tailsN
    rw [List.set_append_right _ _ (by omega), hl, Nat.sub_self, List.drop_eq_getElem_cons hi, List.set_cons_zero, List.take_succ_eq_append_getElem hi, List.map_append, List.map_singleton, List.append_assoc, getElem!_pos ls i hi]
    rfl
theorem pass_not {k : ByteArray} {l : List E} (h : headK k l = false) : passK k l = l := by
  cases l with
  | nil => rfl
  | cons e t =>
    have : ¬ e.key = k := by simpa [headK] using h
    unfold passK
    simp only
    rw [if_neg this]
theorem pass_head {k : ByteArray} {e : E} {t : List E} (h : e.key = k) : passK k (e :: t) = t := by
  unfold passK
  simp only
  rw [if_pos h]
theorem taken_all {ls : List (List E)} {e : E} (h : leastE ls = some e) : takenN e.key ls ls.length = true := by
  obtain ⟨l, h1, h2, h3⟩ := leastE_head h
  unfold takenN
  rw [List.take_length, List.any_eq_true]
  refine ⟨l, h1, ?_⟩
  cases l with
  | nil => exact absurd rfl h2
  | cons x t =>
    have : x = e := h3
    subst this
    simp [headK]
theorem first_head {ls : List (List E)} {e : E} (h : leastE ls = some e) {i : Nat} (hi : i < ls.length) (hh : headK e.key ls[i]! = true) (hn : takenN e.key ls i = false) : hE ls[i]! = e := by
  obtain ⟨p, hp, hpe, hpm⟩ := (leastE_spec ls).2 e h
  obtain ⟨q1, q2, q3⟩ := pairs_mem hp
  have hne : ls[i]! ≠ [] := by intro h0; rw [h0] at hh; cases hh
  have hk : (hE ls[i]!).key = e.key := by
    cases hl : ls[i]! with
    | nil => exact absurd hl hne
    | cons x t =>
      rw [hl] at hh
      have hh2 : x.key = e.key := by simpa [headK] using hh
      exact hh2
  have hq : ((i, ls[i]!) : Nat × List E) ∈ pairs ls := by
    unfold pairs
    rw [List.mem_filter, List.mem_map]
    refine ⟨⟨(ls[i]!, i), ?_, rfl⟩, ?_⟩
    · rw [List.mk_mem_zipIdx_iff_getElem?, getElem!_pos ls i hi]; exact List.getElem?_eq_getElem hi
    · cases hl : ls[i]! with
      | nil => exact absurd hl hne
      | cons x t => simp
  have h1 := cmpP_le.1 (hpm _ hq)
  simp only [hpe] at h1
  rw [hk] at h1
  have h2 : p.1 ≤ i := by
    rcases h1 with h1 | h1
    · have := cself e.key; omega
    · exact h1.2
  by_cases h3 : p.1 = i
  · rw [getElem!_pos ls i hi]
    rw [h3, List.getElem?_eq_getElem hi] at q3
    rw [Option.some.inj q3]
    exact hpe
  · have h4 : takenN e.key ls i = true := by
      unfold takenN
      rw [List.any_eq_true]
      refine ⟨p.2, ?_, ?_⟩
      · rw [List.mem_take_iff_getElem]
        obtain ⟨a, ha⟩ := List.getElem?_eq_some_iff.1 q3
        exact ⟨p.1, by omega, ha⟩
      · cases hl : p.2 with
        | nil => exact absurd hl q2
        | cons x t =>
          rw [hl] at hpe
          have : x = e := hpe
          subst this
          simp [headK]
    rw [h4] at hn
    cases hn
/-- A row of lists of which only the row is its own. -/
structure OwnT (w wr : World) (v : Value) (Ps : List PV) : Prop where
  row : wr.ownsRow w.heap.size 25 1 v Ps.length (Ps.map PV.v)
  parts : ∀ p ∈ Ps, PIn w p
  bel : Below w.heap.size w wr
theorem OwnT.grow {w wr w' : World} {v : Value} {Ps : List PV} (h : OwnT w wr v Ps) (hb : Below wr.heap.size wr w') : OwnT w w' v Ps :=
  ⟨own_below h.row hb (Nat.le_refl _), h.parts, h.bel.trans (hb.mono h.bel.size)⟩
theorem OwnT.pin {w wr : World} {v : Value} {Ps : List PV} (h : OwnT w wr v Ps) : ∀ p ∈ Ps, PIn wr p := fun p hp => (h.parts p hp).below h.bel (Nat.le_refl _)
theorem OwnT.store {w wr : World} {b n c : Nat} {Ps : List PV} (h : OwnT w wr (.slice (some ⟨b, 0, none⟩) n c) Ps) (hn : Ps.length = n) (hb : w.heap.size ≤ b) (i : Nat) {q : PV} (hq : PIn w q) : OwnT w (wr.setCell ⟨b, i, none⟩ q.v) (.slice (some ⟨b, 0, none⟩) n c) (Ps.set i q) := by
  refine ⟨?_, fun p hp => ?_, h.bel.setCell hb _⟩
  · have hr := h.row
    rw [List.length_set, List.map_set]
    rw [hn] at hr ⊢
    exact (hr.stored i q.v).1
  · rcases List.mem_or_eq_of_mem_set hp with hp | rfl
    · exact h.parts p hp
    · exact hq
end Go.Proofs.Yteggjenncmjfmaa
