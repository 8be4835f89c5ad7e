/-
  What a merge keeps, counted: the law MergeNewest's mathematics.
-/
import Derived.Test.YteggjenncmjfmaaMgU
import Derived.Test.YteggjenncmjfmaaFoldM
namespace Go.Proofs.Yteggjenncmjfmaa
open Go.RowKit
set_option linter.unusedSectionVars false
set_option linter.unusedVariables false
variable [Inhabited E] [DecidableEq E] [Inhabited RV]
def seenIn (ls : List (List E)) (t : Nat) (k : ByteArray) : Bool := (ls.take t).any (isIn k)
def keepE (b : Bool) (ls : List (List E)) (t : Nat) (e : E) : Bool := !(seenIn ls t e.key) && !(b && e.del)
def keptF (b : Bool) (ls : List (List E)) (n : Nat) : List E := (List.range n).flatMap fun u => ls[u]!.filter (keepE b ls u)
def cntI (b : Bool) (ls : List (List E)) (t i : Nat) : Nat := (keptF b ls t).length + ((ls[t]!.take i).filter (keepE b ls t)).length
theorem isIn_lk (k : ByteArray) (l : List E) : isIn k l = (lk k l).isSome := by
  unfold isIn lk
  induction l with
  | nil => rfl
  | cons e r ih =>
    rw [List.any_cons, List.find?_cons]
    by_cases h : e.key = k <;> simp [h, ih]
theorem seen_zero (ls : List (List E)) (k : ByteArray) : seenIn ls 0 k = false := rfl
theorem seen_cons (l : List E) (ls : List (List E)) (u : Nat) (k : ByteArray) : seenIn (l :: ls) (u + 1) k = (isIn k l || seenIn ls u k) := rfl
theorem seen_succ (ls : List (List E)) (u : Nat) (k : ByteArray) (h : u < ls.length) : seenIn ls (u + 1) k = (seenIn ls u k || isIn k ls[u]!) := by
  unfold seenIn
  rw [take_snoc ls u h, List.any_append]
  simp
theorem lkF_iff : ∀ {ls : List (List E)}, Rise ls → ∀ e : E, lkF e.key ls = some e ↔ ∃ u, u < ls.length ∧ e ∈ ls[u]! ∧ seenIn ls u e.key = false
  | [], _, e => ⟨fun h => (by cases h), fun ⟨u, h, _⟩ => absurd h (Nat.not_lt_zero u)⟩
  | l :: ls, hr, e => by
    have hl : Ks l := hr l (List.mem_cons_self)
    have ih := lkF_iff (ls := ls) (fun x hx => hr x (List.mem_cons_of_mem _ hx)) e
    rw [lkF_cons]
    cases h : lk e.key l with
    | some x =>
      rw [Option.some_or]
      constructor
      · intro h1
        cases h1
        exact ⟨0, by simp, (lk_mem h).1, rfl⟩
      · rintro ⟨u, hu, hm, hs⟩
        cases u with
        | zero => rw [← h]; exact lk_of_mem hl hm
        | succ u =>
          rw [seen_cons, isIn_lk, h] at hs
          simp at hs
    | none =>
      rw [Option.none_or, ih]
      constructor
      · rintro ⟨u, hu, hm, hs⟩
        exact ⟨u + 1, by simpa using hu, by simpa using hm, by rw [seen_cons, isIn_lk, h, hs]; rfl⟩
      · rintro ⟨u, hu, hm, hs⟩
        cases u with
        | zero =>
          have : lk e.key l = some e := lk_of_mem hl hm
          rw [h] at this; cases this
        | succ u =>
          rw [seen_cons, isIn_lk, h] at hs
          exact ⟨u, by simpa using hu, by simpa using hm, by simpa using hs⟩
theorem merge_mem {ls : List (List E)} (b : Bool) (hr : Rise ls) (e : E) : e ∈ mergeL ls b ↔ ∃ u, u < ls.length ∧ e ∈ ls[u]! ∧ keepE b ls u e = true := by
  have hk := merge_ks b hr
  have h1 : e ∈ mergeL ls b ↔ lk e.key (mergeL ls b) = some e := ⟨lk_of_mem hk, fun h => (lk_mem h).1⟩
  rw [h1, merge_lk b hr, Option.filter_eq_some_iff, lkF_iff hr]
  constructor
  · rintro ⟨⟨u, h1, h2, h3⟩, h4⟩
    exact ⟨u, h1, h2, by unfold keepE; rw [h3, h4]; rfl⟩
  · rintro ⟨u, h1, h2, h3⟩
    unfold keepE at h3
    rw [Bool.and_eq_true] at h3
    exact ⟨⟨u, h1, h2, by simpa using h3.1⟩, h3.2⟩
theorem ks_nodup {l : List E} (h : Ks l) : l.Nodup := h.imp fun {a b} hab e => by
  subst e
  have := cself a.key
  omega
theorem kept_len {ls : List (List E)} (b : Bool) (hr : Rise ls) : (keptF b ls ls.length).length = (mergeL ls b).length := by
  refine List.Perm.length_eq ((List.perm_ext_iff_of_nodup ?_ (ks_nodup (merge_ks b hr))).2 fun e => ?_)
  · unfold keptF
    show List.Pairwise _ _
    rw [List.pairwise_flatMap]
    refine ⟨fun u hu => (ks_nodup (hr _ ?_)).filter _, ?_⟩
    · rw [getElem!_pos ls u (List.mem_range.1 hu)]; exact List.getElem_mem _
    · refine (List.pairwise_lt_range).imp_of_mem (fun {u v} hu hv huv x hx y hy e => ?_)
      subst e
      rw [List.mem_filter] at hx hy
      have h3 := hy.2
      unfold keepE seenIn at h3
      rw [Bool.and_eq_true] at h3
      have h4 : (ls.take v).any (isIn x.key) = true := by
        have hul := List.mem_range.1 hu
        rw [List.any_eq_true]
        refine ⟨ls[u]!, ?_, ?_⟩
        · rw [getElem!_pos ls u hul]
          exact List.mem_take_iff_getElem.2 ⟨u, by omega, rfl⟩
        · unfold isIn
          rw [List.any_eq_true]
          exact ⟨x, hx.1, by simp⟩
      rw [h4] at h3
      exact absurd h3.1 (by simp)
  · rw [merge_mem b hr]
    unfold keptF
    rw [List.mem_flatMap]
    constructor
    · rintro ⟨u, hu, h⟩
      rw [List.mem_filter] at h
      exact ⟨u, List.mem_range.1 hu, h.1, h.2⟩
    · rintro ⟨u, hu, h1, h2⟩
      exact ⟨u, List.mem_range.2 hu, List.mem_filter.2 ⟨h1, h2⟩⟩
theorem cnt_zero (b : Bool) (ls : List (List E)) : cntI b ls 0 0 = 0 := rfl
theorem cnt_end (b : Bool) (ls : List (List E)) (t i : Nat) (h : ls[t]!.length ≤ i) : cntI b ls t i = cntI b ls (t + 1) 0 := by
  unfold cntI keptF
  rw [List.range_succ, List.flatMap_append, List.length_append, List.take_of_length_le h, List.take_zero]
  simp
theorem cnt_last {ls : List (List E)} (b : Bool) (hr : Rise ls) : cntI b ls ls.length 0 = (mergeL ls b).length := by
  unfold cntI
  rw [kept_len b hr, List.take_zero]
  rfl
theorem cnt_step (b : Bool) (ls : List (List E)) (t i : Nat) (h : i < ls[t]!.length) : cntI b ls t (i + 1) = cntI b ls t i + if keepE b ls t ls[t]![i]! then 1 else 0 := by
  unfold cntI
  rw [take_snoc _ i h, List.filter_append, List.length_append]
  cases hk : keepE b ls t ls[t]![i]! with
  | true => rw [List.filter_cons_of_pos hk]; simp; omega
  | false => rw [List.filter_cons_of_neg (by rw [hk]; exact Bool.false_ne_true)]; simp
theorem cnt_le (b : Bool) {ls : List (List E)} (hm : ∀ u : Nat, ls[u]!.length ≤ 60) (t i : Nat) : cntI b ls t i ≤ 60 * t + 60 := by
  unfold cntI
  have h2 : ((ls[t]!.take i).filter (keepE b ls t)).length ≤ 60 := by
    have h1 := List.length_filter_le (keepE b ls t) (ls[t]!.take i)
    rw [List.length_take] at h1
    have := hm t
    omega
  have h3 : ∀ t, (keptF b ls t).length ≤ 60 * t := fun t => by
    induction t with
    | zero => exact Nat.zero_le _
    | succ t ih =>
      have h4 : keptF b ls (t + 1) = keptF b ls t ++ ls[t]!.filter (keepE b ls t) := by
        unfold keptF
        rw [List.range_succ, List.flatMap_append]
        simp
      rw [h4, List.length_append]
      have h1 := List.length_filter_le (keepE b ls t) ls[t]!
      have := hm t
      omega
  have := h3 t
  omega
theorem rise_at (ls : List (List E)) (u : Nat) : (riseL ls)[u]!.length ≤ 60 := by
  by_cases h : u < (riseL ls).length
  · rw [getElem!_pos _ u h]
    have hl : (riseL ls)[u] ∈ riseL ls := List.getElem_mem h
    obtain ⟨m, hm, e⟩ := List.mem_map.1 hl
    obtain ⟨m2, _, rfl⟩ := List.mem_map.1 hm
    rw [← e]
    have := foldS_len (m2.take 60)
    rw [List.length_take] at this; omega
  · rw [getElem!_neg _ u h]; exact Nat.zero_le _
/-- What the loop over what came looks at, of an entry that is kept. -/
theorem kept_at {ls : List (List E)} (b : Bool) (hr : Rise ls) {u : Nat} (hu : u < ls.length) {e : E} (hm : e ∈ ls[u]!) (hk : keepE b ls u e = true) : belowN e.key (mergeL ls b) < (mergeL ls b).length ∧ (mergeL ls b)[belowN e.key (mergeL ls b)]! = e ∧ isIn e.key (mergeL ls b) = true :=
  ks_index (merge_ks b hr) ((merge_mem b hr e).2 ⟨u, hu, hm, hk⟩)
theorem keep_seen {b : Bool} {ls : List (List E)} {t : Nat} {e : E} (h : seenIn ls t e.key = true) : keepE b ls t e = false := by unfold keepE; rw [h]; rfl
theorem keep_new {b : Bool} {ls : List (List E)} {t : Nat} {e : E} (h : seenIn ls t e.key = false) : keepE b ls t e = !(b && e.del) := by unfold keepE; rw [h]; rfl
theorem ks_step {l : List E} (h : Ks l) {i : Nat} (h2 : i + 1 < l.length) : cmpS l[i]!.key l[i + 1]!.key < 0 := by
  rw [getElem!_pos l i (by omega), getElem!_pos l (i + 1) h2]
  exact List.pairwise_iff_getElem.1 h i (i + 1) (by omega) h2 (by omega)
end Go.Proofs.Yteggjenncmjfmaa
