/-
  disk's List.
-/
import Derived.Test.YtomeghngjiaofaaDkQ
import Derived.Test.YtomeghngjiaofaaIter
namespace Go.Proofs.Ytomeghngjiaofaa
open Go.RowKit Go.Maps Go.Sort
def bytesN (s : ByteArray) : List UInt8 := s.data.toList
theorem bytesN_inj {s t : ByteArray} (h : bytesN s = bytesN t) : s = t := by
  cases s; cases t
  congr 1
  exact Array.toList_inj.1 h
/-- All names, rising. -/
def namesL (L : List Fl) : List (List UInt8) := (L.map fun x => bytesN x.nm).mergeSort leB
def Dk.list (A : Dk) : List (List UInt8) := if A.down then [] else namesL A.L
theorem namesL_len (L : List Fl) : (namesL L).length = L.length := by unfold namesL; rw [List.length_mergeSort, List.length_map]
theorem nodup_names {L : List Fl} (h : (L.map Fl.nm).Nodup) : (L.map fun x => bytesN x.nm).Nodup := by
  induction L with
  | nil => exact List.nodup_nil
  | cons a l ih =>
    rw [List.map_cons, List.nodup_cons] at h ⊢
    refine ⟨fun hm => ?_, ih h.2⟩
    obtain ⟨y, hy, e⟩ := List.mem_map.1 hm
    exact h.1 (bytesN_inj e ▸ List.mem_map_of_mem hy)
/-- What the map's keys are. -/
theorem FilesAt.keys {w : World} {m n : Nat} {L : List Fl} {F : Fl → Nat} (h : FilesAt w m n (fun s => (findL L s).map F)) (hn : (L.map Fl.nm).Nodup) (hg : ∀ x ∈ L, x.nm.size ≤ maxLen) :
    ∃ D, w.ownsMap Try.prog 9 ptrElem m n D ∧ (L.map fun x => bytesN x.nm).Perm (strKeys D) := by
  obtain ⟨D, h1, h2⟩ := h
  refine ⟨D, h1, ?_⟩
  obtain ⟨es, rfl, hp⟩ := h1.tidy (string_keyed Try.underlying9)
  obtain ⟨es', e, hk⟩ := h1.keysOf
  cases e
  refine perm_strKeys hp (fun p hp => ?_) (nodup_names hn) (fun x => ?_)
  · obtain ⟨key, hkey⟩ := hk p hp
    obtain ⟨y, -, e, -⟩ := Maps.keyOf_str Try.underlying9 hkey
    exact ⟨y, e⟩
  · constructor
    · intro hx
      obtain ⟨z, hz, rfl⟩ := List.mem_map.1 hx
      have := (h2 z.nm (hg z hz)).2
      show has _ (.string z.nm.data.toList) = true
      rw [this]
      show ((findL L z.nm).map F).isSome = true
      rw [findL_of hn hz]
      rfl
    · intro hx
      have hle : x.length ≤ maxLen := by
        rw [has_eq, List.any_eq_true] at hx
        obtain ⟨p, hp, hs⟩ := hx
        obtain ⟨key, hkey⟩ := hk p hp
        obtain ⟨y, -, e, hl⟩ := Maps.keyOf_str Try.underlying9 hkey
        rw [e] at hs
        have : y = x := by simpa [Lit.sameKey] using hs
        rw [← this]; exact hl
      have := (h2 ⟨x.toArray⟩ (by simpa [ByteArray.size] using hle)).2
      simp only at this
      rw [hx] at this
      cases hf : findL L ⟨x.toArray⟩ with
      | none => rw [hf] at this; cases this
      | some z =>
        obtain ⟨a, b⟩ := findL_some hf
        refine List.mem_map.2 ⟨z, a, ?_⟩
        rw [b]
        simp [bytesN]
section
variable {own : Nat → Prop} {w : World} {g : Nat} {A : Dk}
set_option maxHeartbeats 1000000 in
theorem list_at {N : Nat} (h : DiskAt own w g A N) (hN : N ≤ 1000000) : Calls Try.prog 30 #[.pointer (some ⟨g, 0, none⟩)] w fun e w' => ∃ v, e = .returned v ∧ w'.ownsRow w.heap.size 9 1 v A.list.length (A.list.map encStr) ∧ Below w.heap.size w w' := by
  obtain ⟨hwf, hpl, m, n, uo, uc, blk, bv, hnN, h⟩ := h
  have c2 := h.c2
  have c4 := h.c4
  cases hd : A.down with
  | true =>
    rw [hd] at c4
    have hl : A.list = [] := by unfold Dk.list; rw [hd]; rfl
    rw [hl]
    clear h c2
    go_enter Try.func30, Try.ntmps30
    go_wp2_with fail
    go_ret
    exact ⟨_, rfl, ⟨rfl, .inl ⟨rfl, rfl⟩⟩, Below.refl _ _⟩
  | false =>
    rw [hd] at c4
    have hgood : ∀ x ∈ A.L, x.nm.size ≤ maxLen := fun x hx => by
      have := hwf.good x hx
      unfold badName at this
      simp only [Bool.or_eq_false_iff, decide_eq_false_iff_not] at this
      unfold maxLen
      omega
    obtain ⟨D, hown, hperm⟩ := h.files.keys hwf.nms hgood
    have hsz := hown.size_le
    have HP : Hid ((A.L.map fun x => bytesN x.nm).Perm (strKeys D)) := hperm
    have HL : Hid (A.list = namesL A.L) := by show _ = _; unfold Dk.list; rw [hd]; rfl
    have hS := Try.slices_Sorted_keys_52_53 m n D ptrElem w hown (by unfold maxLen; omega) (by omega)
    clear h hown hperm hgood hsz hd
    refine (callsIn_wide (n := 6)).1 ?_
    have hfK : Fence.wide.fn 53 := trivial
    have hfS : Fence.wide.fn 52 := trivial
    refine callsIn_of_wp Try.func30 rfl trivial ?_ rfl
    simp only [Try.ntmps30, List.size_toArray, List.length_cons, List.length_nil, Nat.reduceAdd, Nat.reduceSub, Array.replicate_succ, Array.replicate_zero, List.push_toArray, List.append_toArray, List.nil_append, List.cons_append]
    gi_wp2_with (first
      | (gi_at_call 53; refine (Try.maps_Keys_53 _ _).mono ?_; rintro e w' ⟨rfl, rfl⟩)
      | (gi_at_call 52; refine hS.mono ?_; rintro e w' ⟨v, ss, rfl, hSS, hrow, hnil, hb⟩))
    go_ret
    have e1 : ss.mergeSort (fun x y => decide (x ≤ y)) = A.list := by
      rw [HL.out]
      exact mergeSort_of_perm (hSS.trans HP.out.symm)
    have e2 : ss.length = A.list.length := by rw [← e1, List.length_mergeSort]
    rw [e1, e2] at hrow
    exact ⟨v, rfl, ownsRow_mono hrow (by simp), ((Below.refl _ w).alloc (Nat.le_refl _) _).trans (hb.mono (by simp))⟩
end
end Go.Proofs.Ytomeghngjiaofaa
