/-
  Rows of entries and of bools that come in; parts of a row that are kept.
-/
import Derived.Test.YteggjenncmjfmaaPartsW
import Derived.Test.YteggjenncmjfmaaRefSo
import Derived.Deep.Grids
namespace Go.Proofs.Yteggjenncmjfmaa
open Go.ChangeShapes Go.WideShapes Go.ChangeAt Go.RowKit Go.Joins Go.Deep
set_option linter.unusedSectionVars false
set_option linter.unusedVariables false
variable [Inhabited E] [DecidableEq E] [Inhabited RV]
section
variable {H : Type} {enc : TypeId × Value → H} {w : World} {base : Nat} {spare : Nat → Bool} {held : Bool}
theorem open_part {r : Reach} {b0 : Nat} {v : Value} {d : DataW H} {p : List MemPlace} (hv : Value.okWide Try.prog w r b0 25 v) (h : DataW.Trod enc Try.prog w base spare held 25 v d p) :
    ∃ q : PV, v = q.v ∧ PIn w q ∧ ∀ e ∈ q.l, e.key.size ≤ maxLen := by
  obtain ⟨a0, len0, cap0, rfl⟩ := okWide_slice Try.underlying25 hv
  obtain ⟨fuel, hf⟩ := h
  obtain ⟨ao, n3, c3, es, he, e1, e0, e2, e3, e4⟩ := cells_ents hf
  simp [Value.cells] at he
  obtain ⟨rfl, rfl, rfl⟩ := he
  have hl : es.length = len0 := e1.1
  subst hl
  exact ⟨⟨.slice a0 es.length cap0, es⟩, rfl, ⟨a0, cap0, rfl, e1, e2, e3, e4⟩, e0⟩
/-- Bools in memory. -/
def BoolsAt (w : World) (b off : Nat) (ts : List Bool) : Prop := ∀ i t, ts[i]? = some t → w.cell? ⟨b, off + i, none⟩ = some (.bool t)
theorem open_boolsA {a0 : Option Addr} {len cap : Nat} {d : DataW H} {p : List MemPlace}
    (hd : DataW.Trod enc Try.prog w 0 (fun _ => true) true 36 (.slice a0 len cap) d p) : ∃ (b off : Nat) (ts : List Bool), BoolsAt w b off ts ∧ ts.length = len ∧ (0 < len → a0 = some ⟨b, off, none⟩) ∧ len ≤ cap ∧ cap ≤ 9223372036854775807 := by
  obtain ⟨fuel, hf⟩ := hd
  rcases open_bools Try.underlying36 Try.underlying4 cells4 hf with ⟨hcs, _⟩ | ⟨a, len', cap', B, hcs, _, hl, hm, _, hr⟩
  · simp [Value.cells] at hcs
    obtain ⟨rfl, rfl, rfl⟩ := hcs
    exact ⟨0, 0, [], fun i p hp => by simp at hp, rfl, fun h => by omega, Nat.le_refl _, by omega⟩
  · simp [Value.cells] at hcs
    obtain ⟨rfl, rfl, rfl⟩ := hcs
    obtain ⟨b, off, spot⟩ := a
    have hspot : 0 < len → spot = none := fun h0 => by simpa [Addr.add] using World.cell?_spot (hr 0 (by omega))
    refine ⟨b, off, (List.range len).map B, fun i t ht => ?_, by simp, fun h => by rw [hspot h], hl, by unfold maxLen at hm; omega⟩
    simp only [List.getElem?_map, Option.map_eq_some_iff] at ht
    obtain ⟨r, hri, rfl⟩ := ht
    obtain ⟨hlt, hrr⟩ := List.getElem?_eq_some_iff.1 hri
    simp at hlt hrr
    subst hrr
    have hs := hspot (by omega)
    subst hs
    rw [← Addr.add_lit]
    exact hr i (by omega)
end
theorem lk_filt (k : ByteArray) : ∀ {A : List E}, Ks A → lk k (filt A) = (lk k A).filter fun e => !e.del := by
  intro A
  induction A with
  | nil => intro _; rfl
  | cons e t ih =>
    intro h
    have ht := ks_tail h
    have hc : filt (e :: t) = (if e.del then filt t else e :: filt t) := by unfold filt; rw [List.filter_cons]; cases e.del <;> rfl
    rw [hc, lk_cons]
    by_cases hk : e.key = k
    · rw [if_pos hk, Option.filter_some]
      cases hd : e.del
      · show lk k (e :: filt t) = some e
        rw [lk_cons, if_pos hk]
      · show lk k (filt t) = none
        rw [ih ht]
        have : lk k t = none := by rw [← hk]; exact lk_head h
        rw [this]; rfl
    · rw [if_neg hk, ← ih ht]
      cases hd : e.del
      · show lk k (e :: filt t) = _
        rw [lk_cons, if_neg hk]
      · rfl
theorem ks_filt {A : List E} (h : Ks A) : Ks (filt A) := List.Pairwise.filter _ h
def wantB (b : Bool) (A : List E) : List E := if b then filt A else A
theorem want_ks {A : List E} (h : Ks A) (b : Bool) : Ks (wantB b A) := by cases b; exact h; exact ks_filt h
theorem want_lk {A : List E} (h : Ks A) (b : Bool) (k : ByteArray) : lk k (wantB b A) = (lk k A).filter fun e => !(b && e.del) := by
  cases b with
  | false => rw [filt_true]; rfl
  | true => exact lk_filt k h
/-- Lists of which the first one that has anything is A, and the others have keys of A alone. -/
theorem one_math {A : List E} (hA : Ks A) (b : Bool) {ls : List (List E)} (hr : Rise ls) (hl : ∀ k, lkF k ls = lk k A) : mergeL ls b = wantB b A := by
  refine ks_ext (merge_ks b hr) (want_ks hA b) (fun k => ?_)
  rw [merge_lk b hr, want_lk hA b, hl]
theorem lk_sub {A L : List E} (h : ∀ e ∈ L, ∃ x ∈ A, x.key = e.key) (k : ByteArray) (hk : lk k A = none) : lk k L = none := by
  refine lk_none (fun x hx hxk => ?_)
  obtain ⟨y, hy, hyk⟩ := h x hx
  have h1 : A.find? (fun e => decide (e.key = k)) = none := hk
  have := List.find?_eq_none.1 h1 y hy
  exact this (by simpa using hyk.trans hxk)
theorem or_self (o : Option E) : o.or o = o := by cases o <;> rfl
theorem one_three {A L : List E} (hA : Ks A) (hL : Ks L) (hs : ∀ e ∈ L, ∃ x ∈ A, x.key = e.key) (b : Bool) : mergeL [A] b = wantB b A ∧ mergeL [A, A, A] b = wantB b A ∧ mergeL [[], A, L, []] b = wantB b A := by
  refine ⟨one_math hA b (fun l hl => by rw [List.mem_singleton.1 hl]; exact hA) (fun k => ?_), one_math hA b (fun l hl => ?_) (fun k => ?_), one_math hA b (fun l hl => ?_) (fun k => ?_)⟩
  · rw [lkF_cons, lkF_nil, Option.or_none]
  · simp only [List.mem_cons, List.not_mem_nil, or_false] at hl
    rcases hl with rfl | rfl | rfl <;> exact hA
  · rw [lkF_cons, lkF_cons, lkF_cons, lkF_nil, Option.or_none, or_self, or_self]
  · simp only [List.mem_cons, List.not_mem_nil, or_false] at hl
    rcases hl with rfl | rfl | rfl | rfl
    · exact List.Pairwise.nil
    · exact hA
    · exact hL
    · exact List.Pairwise.nil
  · rw [lkF_cons, lkF_cons, lkF_cons, lkF_cons, lkF_nil, lk_nil, Option.or_none]
    cases hk : lk k A with
    | none => rw [lk_sub hs k hk]; rfl
    | some e => rfl
end Go.Proofs.Yteggjenncmjfmaa
