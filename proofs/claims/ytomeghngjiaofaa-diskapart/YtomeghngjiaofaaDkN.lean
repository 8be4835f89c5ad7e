/-
  disk's Rename.
-/
import Derived.Test.YtomeghngjiaofaaDkD
namespace Go.Proofs.Ytomeghngjiaofaa
open Go.RowKit
theorem usedL_named (L : List Fl) (i : Nat) (t : ByteArray) : usedL (onId L i (nameF t)) = usedL L := by
  unfold usedL onId
  rw [List.map_map]
  congr 1
  apply List.map_congr_left
  intro x _
  show (if x.id = i then nameF t x else x).body.length = x.body.length
  split <;> rfl
theorem nms_named {L : List Fl} {x : Fl} {t : ByteArray} (hid : (L.map Fl.id).Nodup) (hnm : (L.map Fl.nm).Nodup) (hfree : ∀ y ∈ L, y.nm = t → y.id = x.id) : ((onId L x.id (nameF t)).map Fl.nm).Nodup := by
  induction L with
  | nil => exact List.nodup_nil
  | cons a l ih =>
    rw [List.map_cons, List.nodup_cons] at hid hnm
    have hc : onId (a :: l) x.id (nameF t) = (if a.id = x.id then nameF t a else a) :: onId l x.id (nameF t) := rfl
    rw [hc, List.map_cons, List.nodup_cons]
    refine ⟨fun hm => ?_, ih hid.2 hnm.2 (fun y hy => hfree y (List.mem_cons_of_mem _ hy))⟩
    obtain ⟨z, hz, e⟩ := List.mem_map.1 hm
    obtain ⟨y, hy, rfl⟩ := mem_onId hz
    have hne : a.id ≠ y.id := fun q => hid.1 (q ▸ List.mem_map_of_mem hy)
    by_cases h1 : a.id = x.id
    · rw [if_pos h1] at e
      rw [if_neg (fun q => hne (h1.trans q.symm))] at e
      exact hne (h1.trans (hfree y (List.mem_cons_of_mem _ hy) e).symm)
    · rw [if_neg h1] at e
      by_cases h2 : y.id = x.id
      · rw [if_pos h2] at e
        exact h1 (hfree a List.mem_cons_self e.symm)
      · rw [if_neg h2] at e
        exact hnm.1 (e ▸ List.mem_map_of_mem hy)
theorem Dk.wf.named {A : Dk} (h : A.wf) {x : Fl} {t : ByteArray} (ht : badName t = false) (hfree : ∀ y ∈ A.L, y.nm = t → y.id = x.id) : (A.named x.id t).wf := by
  have h1 := ids_onId A.L x.id (nameF t) (fun _ => rfl)
  refine ⟨?_, nms_named h.ids h.nms hfree, ?_, ?_, ?_, ?_, ?_, h.capI, h.leftI, h.keepB⟩
  · show ((onId A.L x.id (nameF t)).map Fl.id).Nodup
    rw [h1]; exact h.ids
  · intro y hy
    obtain ⟨z, hz, rfl⟩ := mem_onId hy
    split
    · exact ht
    · exact h.good z hz
  · intro y hy
    obtain ⟨z, hz, e⟩ := mem_of_map h1 hy
    rw [← e]; exact h.lt z hz
  · intro p hp
    obtain ⟨z, hz, e⟩ := h.live p hp
    obtain ⟨y, hy, e2⟩ := mem_of_map h1.symm hz
    exact ⟨y, hy, e2.trans e⟩
  · intro y hy
    obtain ⟨z, hz, rfl⟩ := mem_onId hy
    by_cases e : z.id = x.id
    · rw [if_pos e]; exact h.enough z hz
    · rw [if_neg e]; exact h.enough z hz
  · show usedL (onId A.L x.id (nameF t)) ≤ A.cap
    rw [usedL_named]; exact h.fits
theorem chk0' {s t : ByteArray} {d : Bool} (h : chk d [s, t] = 0) : d = false ∧ badName s = false ∧ badName t = false := by
  unfold chk at h
  cases d with
  | true => simp at h
  | false =>
    refine ⟨rfl, ?_⟩
    cases hb : badName s <;> cases hc : badName t <;> simp [hb, hc] at h ⊢
theorem Dk.over_free {A : Dk} (h : A.wf) {x : Fl} (hx : x ∈ A.L) (t : ByteArray) : (A.over x.id t).wf ∧ x ∈ (A.over x.id t).L ∧ ∀ y ∈ (A.over x.id t).L, y.nm = t → y.id = x.id := by
  unfold Dk.over
  cases hf : findL A.L t with
  | none => exact ⟨h, hx, fun y hy e => absurd e (findL_none hf y hy)⟩
  | some y =>
    obtain ⟨h1, h2⟩ := findL_some hf
    by_cases e : y.id = x.id
    · simp only [if_pos e]
      exact ⟨h, hx, fun z hz q => by rw [nodup_at h.nms hz h1 (q.trans h2.symm)]; exact e⟩
    · simp only [if_neg e]
      refine ⟨h.drop h1, List.mem_filter.2 ⟨hx, by simpa using fun q => e q.symm⟩, fun z hz q => ?_⟩
      obtain ⟨h3, h4⟩ := mem_out hz
      exact absurd (by rw [nodup_at h.nms h3 h1 (q.trans h2.symm)]) h4
theorem Dk.wf.rename {A : Dk} (h : A.wf) (s t : ByteArray) : (A.rename s t).2.wf := by
  unfold Dk.rename
  split
  · exact h.pre
  · rename_i hz
    have hz' : chk A.pre.down [s, t] = 0 := by
      by_cases q : chk A.pre.down [s, t] = 0
      · exact q
      · exact absurd q hz
    cases hf : findL A.pre.L s with
    | none => exact h.pre
    | some x =>
      obtain ⟨a, b, c⟩ := Dk.over_free h.pre (findL_some hf).1 t
      exact a.named (chk0' hz').2.2 c
theorem findL_named {L : List Fl} {x : Fl} {t : ByteArray} (hid : (L.map Fl.id).Nodup) (hnm : (L.map Fl.nm).Nodup) (hx : x ∈ L) (hfree : ∀ y ∈ L, y.nm = t → y.id = x.id) (u : ByteArray) : findL (onId L x.id (nameF t)) u = if u = t then some (nameF t x) else if u = x.nm then none else findL L u := by
  have hn2 := nms_named hid hnm hfree
  have hin : nameF t x ∈ onId L x.id (nameF t) := List.mem_map.2 ⟨x, hx, by rw [if_pos rfl]⟩
  by_cases e : u = t
  · rw [if_pos e, e]
    exact findL_of hn2 hin
  · rw [if_neg e]
    by_cases e2 : u = x.nm
    · rw [if_pos e2]
      cases h : findL (onId L x.id (nameF t)) u with
      | none => rfl
      | some z =>
        obtain ⟨h1, h2⟩ := findL_some h
        obtain ⟨y, hy, rfl⟩ := mem_onId h1
        by_cases q : y.id = x.id
        · rw [if_pos q] at h2; exact absurd h2.symm e
        · rw [if_neg q] at h2
          exact absurd (by rw [nodup_at hnm hy hx (h2.trans e2)]) q
    · rw [if_neg e2]
      cases h : findL L u with
      | none =>
        cases h' : findL (onId L x.id (nameF t)) u with
        | none => rfl
        | some z =>
          obtain ⟨h1, h2⟩ := findL_some h'
          obtain ⟨y, hy, rfl⟩ := mem_onId h1
          by_cases q : y.id = x.id
          · rw [if_pos q] at h2; exact absurd h2.symm e
          · rw [if_neg q] at h2; exact absurd h2 (findL_none h y hy)
      | some y =>
        obtain ⟨h1, h2⟩ := findL_some h
        have q : ¬ y.id = x.id := fun q => e2 (by rw [← h2, nodup_at hid h1 hx q])
        have hy : y ∈ onId L x.id (nameF t) := List.mem_map.2 ⟨y, h1, by rw [if_neg q]⟩
        have := findL_of hn2 hy
        rw [h2] at this
        exact this
section
variable {own : Nat → Prop} {w : World} {g : Nat} {A : Dk} {m n : Nat} {uo : Option Addr} {uc : Nat} {blk : Nat → Nat} {bv : Nat → Value}
theorem DiskIn.named (h : DiskIn own w g A m n uo uc blk bv) (hw : A.wf) {x : Fl} (hx : x ∈ A.L) {t : ByteArray} (hfree : ∀ y ∈ A.L, y.nm = t → y.id = x.id) {w' : World} (hb : ∀ k, k < w.heap.size → own k → k ≠ m → k ≠ blk x.id → w'.heap[k]? = w.heap[k]?)
    (hf : w'.heap[blk x.id]? = some (.cells (flC t (bv x.id)) 77 (0, 0))) (hF : FilesAt w' m (n + 1) (fun u => if u = t then some (blk x.id) else if u = x.nm then none else (findL A.L u).map fun y => blk y.id)) :
    DiskIn own w' g (A.named x.id t) m (n + 1) uo uc blk bv := by
  have hid1 : ∀ z : Fl, (if z.id = x.id then nameF t z else z).id = z.id := fun z => by split <;> rfl
  refine ⟨h.og, h.om, ?_, hF.same (fun u => ?_), row_block h.pcs (fun k hk => hb k (h.pcs.lt k hk).2 (h.pown k hk) (h.pg hk).2.1 ((h.pg hk).2.2.1 x hx)), h.pown, fun y hy => ?_, fun y hy z hz k h1 h2 => ?_⟩
  · rw [hb g h.lt h.og h.gm (fun e => (h.fg hx).1 e.symm)]
    show _ = some (Obj.cells (dskC _ ((usedL (onId A.L x.id (nameF t)) : Nat) : Int) _ _ _ _ _ _ _) 69 (0, 0))
    rw [usedL_named]; exact h.cells
  · show (findL (onId A.L x.id (nameF t)) u).map _ = _
    rw [findL_named hw.ids hw.nms hx hfree]
    split
    · rfl
    · split
      · rfl
      · rfl
  · obtain ⟨z, hz, rfl⟩ := mem_onId hy
    obtain ⟨a, b, c, d⟩ := h.file z hz
    by_cases e : z.id = x.id
    · have e' := nodup_at hw.ids hz hx e
      subst e'
      rw [if_pos rfl]
      exact ⟨a, hf, row_block c (fun k hk => hb k (c.lt k hk).2 (d k hk) (h.bg hz hk).2.1 ((h.bg hz hk).2.2 z hz)), d⟩
    · rw [if_neg e]
      exact ⟨a, by rw [hb _ (heap_lt b) a (h.fg hz).2.1 (h.blk_ne hw.nms hx hz e)]; exact b, row_block c (fun k hk => hb k (c.lt k hk).2 (d k hk) (h.bg hz hk).2.1 ((h.bg hz hk).2.2 x hx)), d⟩
  · obtain ⟨y', hy', rfl⟩ := mem_onId hy
    obtain ⟨z', hz', rfl⟩ := mem_onId hz
    rw [hid1] at h1
    rw [hid1] at h2
    rw [hid1, hid1]
    exact h.apart y' hy' z' hz' k h1 h2
end
end Go.Proofs.Ytomeghngjiaofaa
