/-
  How the document reads a block's entries: plain mathematics, no program.
-/
import Derived.Test.YtcgjhopfdpaocaaDoorPartBA
namespace Go.Proofs.YtcgjhopfdpaocaaDoor
open Go.RowKit
set_option linter.unusedSectionVars false
variable [Inhabited E] [DecidableEq E]
/-- An entry as the document reads it, behind one with the key bf: without asking whether it is pressed well, or right. -/
def entR (bf : ByteArray) (bs : List UInt8) : Option (E × Nat) :=
  if (getB bs).2.2 = false then none else
  if bf.size < (getB bs).1 then none else
  if (textOf (bs.drop (getB bs).2.1)).2.2 = false then none else
  match bs.drop ((getB bs).2.1 + (textOf (bs.drop (getB bs).2.1)).2.1) with
  | [] => none
  | t :: r =>
    if 1 < t.toNat then none else
    if (getB r).2.2 = false then none else
    if 1099511627776 < (getB r).1 then none else
    if t.toNat = 1 then some (⟨keyE bf (getB bs).1 (textOf (bs.drop (getB bs).2.1)).1, ⟨#[]⟩, true, ((getB r).1 : Int)⟩, (getB bs).2.1 + (textOf (bs.drop (getB bs).2.1)).2.1 + 1 + (getB r).2.1) else
    if (textOf (r.drop (getB r).2.1)).2.2 = false then none else
    some (⟨keyE bf (getB bs).1 (textOf (bs.drop (getB bs).2.1)).1, bStr (textOf (r.drop (getB r).2.1)).1, false, ((getB r).1 : Int)⟩, (getB bs).2.1 + (textOf (bs.drop (getB bs).2.1)).2.1 + 1 + (getB r).2.1 + (textOf (r.drop (getB r).2.1)).2.1)
theorem keyE_zero {ah bf : ByteArray} (h : ah = bf ∨ ah.size = 0) {sh : Nat} (hs : sh ≤ ah.size) (s : List UInt8) : keyE bf sh s = keyE ah sh s := by
  rcases h with rfl | h
  · rfl
  · have : sh = 0 := by omega
    subst this
    rfl
/-- What the program reads the document reads. -/
theorem entR_of {ah bf : ByteArray} {bs : List UInt8} {x : E} {l : Nat} (h : entOf ah bs = some (x, l)) (hab : ah = bf ∨ ah.size = 0) (hle : ah.size ≤ bf.size) : entR bf bs = some (x, l) := by
  unfold entOf at h
  unfold entR
  split at h
  · cases h
  rename_i h1
  rw [if_neg h1]
  split at h
  · cases h
  rename_i h2
  rw [if_neg (by omega)]
  split at h
  · cases h
  rename_i h3
  rw [if_neg h3]
  split at h
  · cases h
  split at h
  · cases h
  rename_i t r hdr
  rw [hdr]
  simp only
  split at h
  · cases h
  rename_i h5
  rw [if_neg h5]
  split at h
  · cases h
  rename_i h6
  rw [if_neg h6]
  have hg : getB r = ((getB r).1, (getB r).2.1, true) := by
    have : (getB r).2.2 = true := by simpa using h6
    rw [← this]
  have hq := (getB_once _ _ _ hg).1
  rw [keyE_zero hab (by omega)]
  split at h
  · rename_i h7
    obtain ⟨hr, rfl, rfl⟩ := finE_some h
    have hR := hr
    simp only [rightB, decide_eq_true_eq] at hR
    obtain ⟨w1, w2⟩ := wrap64_right hq hR.2.2.2.2.1 hR.2.2.2.2.2
    have hb : ¬ 1099511627776 < (getB r).1 := by have := hR.2.2.2.2.2; omega
    rw [if_neg hb, if_pos h7, w1]
  · rename_i h7
    split at h
    · cases h
    rename_i h8
    obtain ⟨hr, rfl, rfl⟩ := finE_some h
    have hR := hr
    simp only [rightB, decide_eq_true_eq] at hR
    obtain ⟨w1, w2⟩ := wrap64_right hq hR.2.2.2.2.1 hR.2.2.2.2.2
    have hb : ¬ 1099511627776 < (getB r).1 := by have := hR.2.2.2.2.2; omega
    rw [if_neg hb, if_neg h7, if_neg h8, w1]
/-- Where the document's reader stands. -/
def RInv (body : List UInt8) (l : List E) (cur : List UInt8) : Prop :=
  ∀ l0, fitB l0 = true → bodyB l0 l0.length = body → ∃ rest, l0 = l ++ rest ∧ cur = body.drop (bodyB l l.length).length
theorem rinv_nil (body : List UInt8) : RInv body [] body := fun l0 _ _ => ⟨l0, rfl, by simp [bodyB]⟩
theorem rinv_next {body : List UInt8} {l rest : List E} {cur : List UInt8} (hf : fitB (l ++ rest) = true) (hb : bodyB (l ++ rest) (l ++ rest).length = body) (hc : cur = body.drop (bodyB l l.length).length) (hne : cur ≠ []) :
    ∃ e r, rest = e :: r ∧ entR (lastK l l.length) cur = some (e, (pressB (aheadK l l.length) e).length) := by
  obtain ⟨more, hm⟩ := bodyB_more (l ++ rest) l.length rest.length
  rw [bodyB_app, show l.length + rest.length = (l ++ rest).length by simp, hb] at hm
  have hat : bodyB l l.length = body.take (bodyB l l.length).length := by rw [hm, List.take_left]
  have hlt : (bodyB l l.length).length < body.length := by
    rcases Nat.lt_or_ge (bodyB l l.length).length body.length with h | h
    · exact h
    · exact absurd (by rw [hc]; exact List.drop_eq_nil_of_le h) hne
  obtain ⟨e, r, hr, he⟩ := next_of l rest body (fit_all hf) hb _ hat hlt
  refine ⟨e, r, hr, ?_⟩
  rw [← hc] at he
  by_cases h8 : l.length % 8 = 0
  · have h0 : (aheadK l l.length).size = 0 := by unfold aheadK; rw [if_pos h8]; rfl
    exact entR_of he (.inr h0) (by omega)
  · have h1 : lastK l l.length = aheadK l l.length := by
      unfold lastK aheadK
      rw [if_neg h8, if_neg (fun h0 => h8 (by rw [h0]))]
    rw [h1]
    exact entR_of he (.inl rfl) (Nat.le_refl _)
theorem rinv_none {body : List UInt8} {l : List E} {cur : List UInt8} (h : RInv body l cur) (hne : cur ≠ []) (hn : entR (lastK l l.length) cur = none) : ∀ l0, fitB l0 = true → bodyB l0 l0.length ≠ body := by
  intro l0 hf hb
  obtain ⟨rest, rfl, hc⟩ := h l0 hf hb
  obtain ⟨e, r, rfl, he⟩ := rinv_next hf hb hc hne
  rw [hn] at he
  cases he
theorem rinv_full {body : List UInt8} {l : List E} {cur : List UInt8} (h : RInv body l cur) (h64 : 64 < l.length) : ∀ l0, fitB l0 = true → bodyB l0 l0.length ≠ body := by
  intro l0 hf hb
  obtain ⟨rest, rfl, hc⟩ := h l0 hf hb
  have := (fit_len hf).2
  rw [List.length_append] at this
  omega
theorem rinv_step {body : List UInt8} {l : List E} {cur : List UInt8} (h : RInv body l cur) (hne : cur ≠ []) {e : E} {k : Nat} (hn : entR (lastK l l.length) cur = some (e, k)) : RInv body (l ++ [e]) (cur.drop k) := by
  intro l0 hf hb
  obtain ⟨rest, rfl, hc⟩ := h l0 hf hb
  obtain ⟨e2, r, rfl, he⟩ := rinv_next hf hb hc hne
  rw [hn] at he
  cases he
  refine ⟨r, by simp, ?_⟩
  rw [hc, List.drop_drop, List.length_append, List.length_singleton, bodyB_snoc, List.length_append]
theorem rinv_end {body : List UInt8} {l : List E} (h : RInv body l []) : ∀ l0, fitB l0 = true → bodyB l0 l0.length = body → l0 = l := by
  intro l0 hf hb
  obtain ⟨rest, rfl, hc⟩ := h l0 hf hb
  cases rest with
  | nil => simp
  | cons e r =>
    exfalso
    obtain ⟨more, hm⟩ := bodyB_more (l ++ e :: r) (l.length + 1) r.length
    rw [bodyB_snoc, show l.length + 1 + r.length = (l ++ e :: r).length by simp; omega, hb] at hm
    have h2 := pressB_pos (aheadK l l.length) e
    have h3 := congrArg List.length hc
    rw [List.length_drop, hm] at h3
    simp only [List.length_append, List.length_nil] at h3
    omega
end Go.Proofs.YtcgjhopfdpaocaaDoor
