/-
  A clone of a disk, as it grows: no walk.
-/
import Derived.Test.YtomeghngjiaofaaDkJ
import Derived.Test.YtomeghngjiaofaaDkD
import Derived.Maps.RangeWalk
namespace Go.Proofs.Ytomeghngjiaofaa
open Go.RowKit Go.Maps Go.Sort Go.WideMaps
/-- The files that are there so far. -/
structure CloneIn (B : Nat) (w : World) (m n : Nat) (L : List Fl) (blk : Nat → Nat) (bv : Nat → Value) : Prop where
  files : FilesAt w m n (fun s => (findL L s).map fun x => blk x.id)
  file : ∀ x ∈ L, B ≤ blk x.id ∧ w.heap[blk x.id]? = some (.cells (flC x.nm (bv x.id)) 77 (0, 0)) ∧ w.ownsRow B 5 1 (bv x.id) x.body.length (cellsOf x.body)
  apart : ∀ x ∈ L, ∀ y ∈ L, ∀ k, (bv x.id).ownBlock = some k → (bv y.id).ownBlock = some k → x.id = y.id
def goneL (A : List Fl) (left : Lit → Bool) : List Fl := A.filter fun x => !left (.string (bytesN x.nm))
theorem mem_gone {A : List Fl} {left : Lit → Bool} {x : Fl} (h : x ∈ goneL A left) : x ∈ A ∧ left (.string (bytesN x.nm)) = false := by
  have := List.mem_filter.1 h
  simpa using this
theorem gone_nodup {A : List Fl} {left : Lit → Bool} (h : (A.map Fl.nm).Nodup) : ((goneL A left).map Fl.nm).Nodup := h.sublist (List.filter_sublist.map _)
theorem gone_all {A : List Fl} {left : Lit → Bool} (h : ∀ kl, left kl = false) : goneL A left = A := by
  unfold goneL
  rw [List.filter_eq_self]
  intro x _
  rw [h]; rfl
theorem lit_same {s t : ByteArray} : (Lit.string (bytesN s)).sameKey (.string (bytesN t)) = decide (s = t) := by
  by_cases h : s = t
  · subst h; simp [Lit.sameKey]
  · rw [decide_eq_false h]
    apply sameKey_ne
    intro e
    injection e with e
    exact h (bytesN_inj e)
/-- The new list, where x has come. -/
theorem gone_mem {A : List Fl} {left : Lit → Bool} {x : Fl} (hnm : (A.map Fl.nm).Nodup) (hx : x ∈ A) (y : Fl) : y ∈ goneL A (fun z => left z && !z.sameKey (.string (bytesN x.nm))) ↔ y = x ∨ y ∈ goneL A left := by
  unfold goneL
  rw [List.mem_filter, List.mem_filter]
  show (y ∈ A ∧ (!(left (.string (bytesN y.nm)) && !(Lit.string (bytesN y.nm)).sameKey (.string (bytesN x.nm)))) = true) ↔ _
  rw [lit_same]
  constructor
  · rintro ⟨h1, h2⟩
    by_cases e : y.nm = x.nm
    · exact .inl (nodup_at hnm h1 hx e)
    · right
      refine ⟨h1, ?_⟩
      rw [decide_eq_false e] at h2
      simpa using h2
  · rintro (rfl | ⟨h1, h2⟩)
    · exact ⟨hx, by simp⟩
    · refine ⟨h1, ?_⟩
      simp only [Bool.not_eq_true'] at h2
      rw [h2]; rfl
theorem gone_find {A : List Fl} {left : Lit → Bool} {x : Fl} (hnm : (A.map Fl.nm).Nodup) (hx : x ∈ A) (t : ByteArray) : findL (goneL A (fun z => left z && !z.sameKey (.string (bytesN x.nm)))) t = if t = x.nm then some x else findL (goneL A left) t := by
  have hn2 : ((goneL A (fun z => left z && !z.sameKey (.string (bytesN x.nm)))).map Fl.nm).Nodup := gone_nodup hnm
  by_cases e : t = x.nm
  · rw [if_pos e, e]
    exact findL_of hn2 ((gone_mem hnm hx x).2 (.inl rfl))
  · rw [if_neg e]
    cases h : findL (goneL A left) t with
    | none =>
      cases h' : findL (goneL A (fun z => left z && !z.sameKey (.string (bytesN x.nm)))) t with
      | none => rfl
      | some y =>
        obtain ⟨h1, h2⟩ := findL_some h'
        rcases (gone_mem hnm hx y).1 h1 with rfl | h3
        · exact absurd h2.symm e
        · exact absurd h2 (findL_none h y h3)
    | some y =>
      obtain ⟨h1, h2⟩ := findL_some h
      have := findL_of hn2 ((gone_mem hnm hx y).2 (.inr h1))
      rw [h2] at this
      exact this
theorem CloneIn.add {B : Nat} {w w' : World} {m n : Nat} {A : List Fl} {left : Lit → Bool} {blk : Nat → Nat} {bv : Nat → Value} (h : CloneIn B w m n (goneL A left) blk bv) (hid : (A.map Fl.id).Nodup) (hnm : (A.map Fl.nm).Nodup) {x : Fl} (hx : x ∈ A) (hl : left (.string (bytesN x.nm)) = true)
    {nb : Nat} {v : Value} (hB : B ≤ w.heap.size) (hnb : w.heap.size ≤ nb) (hb : ∀ k, k < w.heap.size → k ≠ m → w'.heap[k]? = w.heap[k]?) (hf : w'.heap[nb]? = some (.cells (flC x.nm v) 77 (0, 0))) (hr : w'.ownsRow w.heap.size 5 1 v x.body.length (cellsOf x.body))
    (hF : FilesAt w' m (n + 1) (fun t => if t = x.nm then some nb else (findL (goneL A left) t).map fun y => blk y.id)) :
    CloneIn B w' m (n + 1) (goneL A (fun z => left z && !z.sameKey (.string (bytesN x.nm)))) (fun i => if i = x.id then nb else blk i) (fun i => if i = x.id then v else bv i) := by
  have hne : ∀ y ∈ goneL A left, y.id ≠ x.id := fun y hy e => by
    have h1 := mem_gone hy
    rw [nodup_at hid h1.1 hx e, hl] at h1
    cases h1.2
  obtain ⟨es, cl, hm⟩ := h.files.heap
  refine ⟨hF.same (fun t => ?_), fun y hy => ?_, fun y hy z hz k h1 h2 => ?_⟩
  · rw [gone_find hnm hx]
    by_cases e : t = x.nm
    · rw [if_pos e, if_pos e]
      show some (if x.id = x.id then nb else blk x.id) = some nb
      rw [if_pos rfl]
    · rw [if_neg e, if_neg e]
      cases hf' : findL (goneL A left) t with
      | none => rfl
      | some y =>
        show some (if y.id = x.id then nb else blk y.id) = some (blk y.id)
        rw [if_neg (hne y (findL_some hf').1)]
  · rcases (gone_mem hnm hx y).1 hy with rfl | hy'
    · simp only [if_true]
      exact ⟨Nat.le_trans hB hnb, hf, ownsRow_mono hr hB⟩
    · simp only [if_neg (hne y hy')]
      obtain ⟨a, b, c⟩ := h.file y hy'
      refine ⟨a, by rw [hb _ (heap_lt b) (ne_map b hm)]; exact b, row_block c (fun k hk => ?_)⟩
      obtain ⟨cur, e⟩ := row_heap c hk
      exact hb k (heap_lt e) (ne_map e hm)
  · rcases (gone_mem hnm hx y).1 hy with rfl | hy'
    · rcases (gone_mem hnm hx z).1 hz with rfl | hz'
      · rfl
      · simp only [if_true] at h1
        simp only [if_neg (hne z hz')] at h2
        have h3 := (hr.lt k h1).1
        have h4 := ((h.file z hz').2.2.lt k h2).2
        omega
    · rcases (gone_mem hnm hx z).1 hz with rfl | hz'
      · simp only [if_neg (hne y hy')] at h1
        simp only [if_true] at h2
        have h3 := (hr.lt k h2).1
        have h4 := ((h.file y hy').2.2.lt k h1).2
        omega
      · simp only [if_neg (hne y hy')] at h1
        simp only [if_neg (hne z hz')] at h2
        exact h.apart y hy' z hz' k h1 h2
theorem CloneIn.keep {B : Nat} {w w' : World} {m n : Nat} {L : List Fl} {blk : Nat → Nat} {bv : Nat → Value} (h : CloneIn B w m n L blk bv) (hb : ∀ k, k < w.heap.size → (k = m ∨ B ≤ k) → (∀ c f, w.heap[k]? ≠ some (.cells c 69 f)) → (∀ o a b c, w.heap[k]? ≠ some (.mapIter o a b c)) → w'.heap[k]? = w.heap[k]?) : CloneIn B w' m n L blk bv := by
  obtain ⟨es, cl, hm⟩ := h.files.heap
  refine ⟨h.files.block (hb m h.files.lt (.inl rfl) (fun c f e => by rw [hm] at e; cases e) (fun o a b c e => by rw [hm] at e; cases e)), fun x hx => ?_, h.apart⟩
  obtain ⟨a, b, c⟩ := h.file x hx
  refine ⟨a, ?_, row_block c (fun k hk => ?_)⟩
  · rw [hb _ (heap_lt b) (.inr a) (fun c f e => by rw [b] at e; cases e) (fun o a' b' c' e => by rw [b] at e; cases e)]
    exact b
  · obtain ⟨cur, e⟩ := row_heap c hk
    exact hb k (heap_lt e) (.inr (c.lt k hk).1) (fun c' f e' => by rw [e] at e'; cases e') (fun o a' b' c' e' => by rw [e] at e'; cases e')
end Go.Proofs.Ytomeghngjiaofaa
