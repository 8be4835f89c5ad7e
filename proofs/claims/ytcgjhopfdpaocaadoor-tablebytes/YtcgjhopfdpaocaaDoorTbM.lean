/-
  A table's file as lists of bytes, and what reading it comes to: plain mathematics.
-/
import Derived.Test.YtcgjhopfdpaocaaDoorPartBB
import Derived.Test.YtcgjhopfdpaocaaDoorPartAG
namespace Go.Proofs.YtcgjhopfdpaocaaDoor
open Go.RowKit Go.Sort Go.Shelf
set_option linter.unusedSectionVars false
variable [Inhabited E] [DecidableEq E]
def chunk (es : List E) (k : Nat) : List E := (es.drop (16 * k)).take 16
def nT (es : List E) : Nat := (es.length + 15) / 16
def blkT (es : List E) (k : Nat) : List UInt8 := blockB (chunk es k)
def keyT (es : List E) (k : Nat) : ByteArray := es[16 * k]!.key
def rowT (es : List E) (k : Nat) : List UInt8 := textB (strB (keyT es k)) ++ putB (blkT es k).length
def bodyT (es : List E) : Nat → List UInt8
  | 0 => []
  | k + 1 => bodyT es k ++ blkT es k
def idxT (es : List E) : Nat → List UInt8
  | 0 => []
  | k + 1 => idxT es k ++ rowT es k
def letT : List UInt8 := [77, 65, 82, 76]
/-- The file of a list. -/
def fileB (es : List E) : List UInt8 := letT ++ bodyT es (nT es) ++ idxT es (nT es) ++ fixB (nT es) ++ fixB (4 + (bodyT es (nT es)).length)
theorem chunk_len (es : List E) (k : Nat) : (chunk es k).length = min 16 (es.length - 16 * k) := by simp [chunk]
theorem chunk_sub (es : List E) (k : Nat) : (chunk es k).Sublist es := (List.take_sublist _ _).trans (List.drop_sublist _ _)
theorem nT_lt {es : List E} {k : Nat} : k < nT es ↔ 16 * k < es.length := by unfold nT; omega
theorem fit_sub {es l : List E} (h : fitB es = true) (hs : l.Sublist es) (h1 : 1 ≤ l.length) : fitB l = true := by
  unfold fitB at h ⊢
  simp only [Bool.and_eq_true, decide_eq_true_eq] at h ⊢
  refine ⟨⟨⟨h1, Nat.le_trans hs.length_le h.1.1.2⟩, ?_⟩, sortedB_ks.2 ((sortedB_ks.1 h.2).sublist hs)⟩
  have h3 := h.1.2
  rw [List.all_eq_true] at h3 ⊢
  exact fun e he => h3 e (hs.subset he)
theorem fit_chunk {es : List E} (h : fitB es = true) {k : Nat} (hk : k < nT es) : fitB (chunk es k) = true :=
  fit_sub h (chunk_sub es k) (by rw [chunk_len]; have := nT_lt.1 hk; omega)
theorem nT_le {es : List E} (h : fitB es = true) : 1 ≤ nT es ∧ nT es ≤ 4 := by have := fit_len h; unfold nT; omega
theorem blkT_len {es : List E} (h : fitB es = true) {k : Nat} (hk : k < nT es) : (blkT es k).length ≤ 100000 ∧ 8 ≤ (blkT es k).length := blockB_len (fit_chunk h hk)
theorem bodyT_len {es : List E} (h : fitB es = true) : ∀ k, k ≤ nT es → (bodyT es k).length ≤ 100000 * k
  | 0, _ => by simp [bodyT]
  | k + 1, hk => by
    have h1 := bodyT_len h k (by omega)
    have h2 := (blkT_len h (k := k) (by omega)).1
    rw [bodyT, List.length_append]; omega
theorem textB_len2 (s : ByteArray) : (textB (strB s)).length ≤ 10 + s.size ∧ 1 ≤ (textB (strB s)).length := by
  have h1 := putB_le (strB s).length
  have h2 := putB_pos (strB s).length
  rw [textB, List.length_append, strB_length] at *
  omega
theorem keyT_size {es : List E} (h : fitB es = true) {k : Nat} (hk : k < nT es) : (keyT es k).size ≤ 128 := by
  have h1 := fit_all h
  rw [List.all_eq_true] at h1
  have h2 := nT_lt.1 hk
  unfold keyT
  rw [getElem!_pos es (16 * k) h2]
  exact (right_parts (h1 _ (List.getElem_mem h2))).1
theorem rowT_len {es : List E} (h : fitB es = true) {k : Nat} (hk : k < nT es) : (rowT es k).length ≤ 148 ∧ 1 ≤ (rowT es k).length := by
  have h1 := textB_len2 (keyT es k)
  have h2 := keyT_size h hk
  have h3 := putB_le (blkT es k).length
  rw [rowT, List.length_append]; omega
theorem idxT_len {es : List E} (h : fitB es = true) : ∀ k, k ≤ nT es → (idxT es k).length ≤ 148 * k
  | 0, _ => by simp [idxT]
  | k + 1, hk => by
    have h1 := idxT_len h k (by omega)
    have h2 := (rowT_len h (k := k) (by omega)).1
    rw [idxT, List.length_append]; omega
theorem fileB_length (es : List E) : (fileB es).length = 4 + (bodyT es (nT es)).length + (idxT es (nT es)).length + 8 := by
  simp only [fileB, List.length_append, fixB_len, letT, List.length_cons, List.length_nil]
theorem fileB_len {es : List E} (h : fitB es = true) : (fileB es).length ≤ 500000 ∧ 12 ≤ (fileB es).length := by
  have h1 := nT_le h
  have h2 := bodyT_len h (nT es) (Nat.le_refl _)
  have h3 := idxT_len h (nT es) (Nat.le_refl _)
  rw [fileB_length]; omega
/-! ### Reading -/
def gT (idx : List UInt8) : Nat × Nat × Bool := getB (idx.drop (textOf idx).2.1)
def goT (rest idx : List UInt8) : Prop := (textOf idx).2.2 = true ∧ (gT idx).2.2 = true ∧ (gT idx).1 ≤ rest.length
open Classical in
noncomputable def stoL : Nat → List UInt8 → List UInt8 → List (List UInt8)
  | 0, _, _ => []
  | f + 1, rest, idx => if idx.length = 0 then [] else if goT rest idx then rest.take (gT idx).1 :: stoL f (rest.drop (gT idx).1) (idx.drop ((textOf idx).2.1 + (gT idx).2.1)) else []
theorem sto_cut {rest idx : List UInt8} (h : goT rest idx) : 1 ≤ (textOf idx).2.1 ∧ 1 ≤ (gT idx).2.1 ∧ (textOf idx).2.1 + (gT idx).2.1 ≤ idx.length := by
  obtain ⟨h1, h2, -⟩ := h
  obtain ⟨a1, a2, a3, a4⟩ := textOf_once idx (textOf idx).1 (textOf idx).2.1 (by rw [← h1])
  obtain ⟨b1, b2, b3, b4⟩ := getB_once (idx.drop (textOf idx).2.1) (gT idx).1 (gT idx).2.1 (by show gT idx = _; rw [← h2])
  rw [List.length_drop] at b3
  omega
theorem stoL_fuel : ∀ (f g : Nat) (rest idx : List UInt8), idx.length ≤ f → idx.length ≤ g → stoL f rest idx = stoL g rest idx
  | 0, g, rest, idx, hf, hg => by
    have h0 : idx.length = 0 := by omega
    cases g with
    | zero => rfl
    | succ g => simp only [stoL, h0, if_true]
  | f + 1, 0, rest, idx, hf, hg => by
    have h0 : idx.length = 0 := by omega
    simp only [stoL, h0, if_true]
  | f + 1, g + 1, rest, idx, hf, hg => by
    simp only [stoL]
    by_cases h0 : idx.length = 0
    · rw [if_pos h0, if_pos h0]
    · rw [if_neg h0, if_neg h0]
      by_cases hg2 : goT rest idx
      · have h1 := sto_cut hg2
        rw [if_pos hg2, if_pos hg2, stoL_fuel f g _ _ (by rw [List.length_drop]; omega) (by rw [List.length_drop]; omega)]
      · rw [if_neg hg2, if_neg hg2]
/-- The parts that an index cuts. -/
noncomputable def stoA (rest idx : List UInt8) : List (List UInt8) := stoL idx.length rest idx
theorem stoA_nil (rest idx : List UInt8) (h : idx.length = 0) : stoA rest idx = [] := by unfold stoA; rw [h]; rfl
theorem stoA_go {rest idx : List UInt8} (h0 : 0 < idx.length) (h : goT rest idx) : stoA rest idx = rest.take (gT idx).1 :: stoA (rest.drop (gT idx).1) (idx.drop ((textOf idx).2.1 + (gT idx).2.1)) := by
  unfold stoA
  obtain ⟨f, hf⟩ : ∃ f, idx.length = f + 1 := ⟨idx.length - 1, by omega⟩
  rw [hf, stoL, if_neg (by omega), if_pos h, stoL_fuel f _ _ _ (by rw [List.length_drop]; have := sto_cut h; omega) (Nat.le_refl _)]
theorem stoA_no {rest idx : List UInt8} (h0 : 0 < idx.length) (h : ¬ goT rest idx) : stoA rest idx = [] := by
  unfold stoA
  obtain ⟨f, hf⟩ : ∃ f, idx.length = f + 1 := ⟨idx.length - 1, by omega⟩
  rw [hf, stoL, if_neg (by omega), if_neg h]
def placeR (bs : List UInt8) : Nat := (fixOf (bs.drop (bs.length - 4))).1
def okR (bs : List UInt8) : Prop := 12 ≤ bs.length ∧ 4 ≤ placeR bs ∧ placeR bs ≤ bs.length - 8
open Classical in
noncomputable def bodyR (bs : List UInt8) : List UInt8 := if okR bs then (bs.take (placeR bs)).drop 4 else []
open Classical in
noncomputable def idxR (bs : List UInt8) : List UInt8 := if okR bs then (bs.take (bs.length - 8)).drop (placeR bs) else []
noncomputable def storedL (bs : List UInt8) : List (List UInt8) := stoA (bodyR bs) (idxR bs)
/-! ### A file, read -/
def bodyF (es : List E) : Nat → Nat → List UInt8
  | _, 0 => []
  | k, j + 1 => blkT es k ++ bodyF es (k + 1) j
def idxF (es : List E) : Nat → Nat → List UInt8
  | _, 0 => []
  | k, j + 1 => rowT es k ++ idxF es (k + 1) j
theorem bodyF_T (es : List E) : ∀ j k, bodyT es k ++ bodyF es k j = bodyT es (k + j)
  | 0, k => by simp [bodyF]
  | j + 1, k => by
    have h := bodyF_T es j (k + 1)
    rw [bodyF, ← List.append_assoc, show k + (j + 1) = k + 1 + j from by omega, ← h, bodyT]
theorem idxF_T (es : List E) : ∀ j k, idxT es k ++ idxF es k j = idxT es (k + j)
  | 0, k => by simp [idxF]
  | j + 1, k => by
    have h := idxF_T es j (k + 1)
    rw [idxF, ← List.append_assoc, show k + (j + 1) = k + 1 + j from by omega, ← h, idxT]
theorem bodyF_all (es : List E) (n : Nat) : bodyF es 0 n = bodyT es n := by have := bodyF_T es n 0; simpa [bodyT] using this
theorem idxF_all (es : List E) (n : Nat) : idxF es 0 n = idxT es n := by have := idxF_T es n 0; simpa [idxT] using this
/-- One part of an index, and of what it cuts. -/
theorem step_file {es : List E} (h : fitB es = true) {k j : Nat} (hk : k < nT es) :
    (textOf (idxF es k (j + 1))).2.2 = true ∧ (textOf (idxF es k (j + 1))).1 = strB (keyT es k) ∧ gT (idxF es k (j + 1)) = ((blkT es k).length, (putB (blkT es k).length).length, true) ∧ (textOf (idxF es k (j + 1))).2.1 + (putB (blkT es k).length).length = (rowT es k).length ∧ (textOf (idxF es k (j + 1))).2.1 = (textB (strB (keyT es k))).length := by
  have hb := (blkT_len h hk).1
  have hkz := keyT_size h hk
  have ht : textOf (idxF es k (j + 1)) = (strB (keyT es k), (textB (strB (keyT es k))).length, true) := by
    rw [idxF, rowT, List.append_assoc]
    exact textOf_textB _ _ (by rw [strB_length]; omega)
  have hg : gT (idxF es k (j + 1)) = ((blkT es k).length, (putB (blkT es k).length).length, true) := by
    unfold gT
    rw [ht]
    simp only
    rw [idxF, rowT, List.append_assoc, List.drop_left]
    exact getB_putB _ (by omega) _
  refine ⟨by rw [ht], by rw [ht], hg, ?_, by rw [ht]⟩
  rw [ht, rowT, List.length_append]
theorem go_file {es : List E} (h : fitB es = true) {k j : Nat} (hk : k < nT es) : goT (bodyF es k (j + 1)) (idxF es k (j + 1)) := by
  obtain ⟨h1, -, h2, -⟩ := step_file (j := j) h hk
  refine ⟨h1, by rw [h2], ?_⟩
  rw [h2, bodyF, List.length_append]
  exact Nat.le_add_right _ _
theorem idxF_pos {es : List E} (h : fitB es = true) {k j : Nat} (hk : k < nT es) : 0 < (idxF es k (j + 1)).length := by
  have := (rowT_len h hk).2
  rw [idxF, List.length_append]; omega
theorem sto_file {es : List E} (h : fitB es = true) : ∀ j k, k + j ≤ nT es → stoA (bodyF es k j) (idxF es k j) = (List.range' k j).map (blkT es)
  | 0, k, _ => by rw [stoA_nil _ _ rfl]; rfl
  | j + 1, k, hk => by
    have hk2 : k < nT es := by omega
    obtain ⟨h1, -, h2, h3, -⟩ := step_file (j := j) h hk2
    rw [stoA_go (idxF_pos h hk2) (go_file h hk2), h2]
    simp only
    rw [h3, bodyF, idxF, List.take_left, List.drop_left, List.drop_left, sto_file h j (k + 1) (by omega), List.range'_succ, List.map_cons]
theorem fixOf_four (v : Nat) (hv : v < 4294967296) : fixOf (fixB v) = (v, true) := by have := fixOf_fixB v hv []; simpa using this
theorem file_place {es : List E} (h : fitB es = true) : placeR (fileB es) = 4 + (bodyT es (nT es)).length := by
  have hl := fileB_length es
  unfold placeR
  rw [show (fileB es).length - 4 = (letT ++ bodyT es (nT es) ++ idxT es (nT es) ++ fixB (nT es)).length from by simp only [List.length_append, fixB_len, letT, List.length_cons, List.length_nil]; omega]
  rw [fileB, List.drop_left, fixOf_four _ (by have := bodyT_len h (nT es) (Nat.le_refl _); have := nT_le h; omega)]
theorem file_count {es : List E} (h : fitB es = true) : (fixOf ((fileB es).drop ((fileB es).length - 8))).1 = nT es := by
  have hl := fileB_length es
  rw [show (fileB es).length - 8 = (letT ++ bodyT es (nT es) ++ idxT es (nT es)).length from by simp only [List.length_append, letT, List.length_cons, List.length_nil]; omega]
  rw [fileB, List.append_assoc _ (fixB _) (fixB _), List.drop_left, fixOf_fixB _ (by have := nT_le h; omega)]
theorem file_ok {es : List E} (h : fitB es = true) : okR (fileB es) := by
  have hl := fileB_length es
  refine ⟨by omega, ?_, ?_⟩
  · rw [file_place h]; omega
  · rw [file_place h]; omega
theorem file_body {es : List E} (h : fitB es = true) : ((fileB es).take (placeR (fileB es))).drop 4 = bodyT es (nT es) := by
  rw [file_place h, fileB, List.append_assoc, List.append_assoc]
  rw [List.take_left' (by simp [letT]; omega)]
  exact List.drop_left (l₁ := letT)
theorem file_idx {es : List E} (h : fitB es = true) : ((fileB es).take ((fileB es).length - 8)).drop (placeR (fileB es)) = idxT es (nT es) := by
  have hl := fileB_length es
  rw [file_place h]
  rw [show (fileB es).length - 8 = (letT ++ bodyT es (nT es) ++ idxT es (nT es)).length from by simp only [List.length_append, letT, List.length_cons, List.length_nil]; omega]
  rw [fileB, List.append_assoc _ (fixB _) (fixB _), List.take_left, List.drop_left' (by simp [letT]; omega)]
def chunksL (es : List E) : List (List E) := (List.range' 0 (nT es)).map (chunk es)
theorem chunks_fit {es : List E} (h : fitB es = true) : ∀ c ∈ chunksL es, fitB c = true := by
  intro c hc
  obtain ⟨k, hk, rfl⟩ := List.mem_map.1 hc
  exact fit_chunk h (by have := List.mem_range'_1.1 hk; omega)
theorem chunks_flat (es : List E) : ∀ j k, es.length ≤ 16 * (k + j) → ((List.range' k j).map (chunk es)).flatten = es.drop (16 * k)
  | 0, k, h => by rw [List.drop_eq_nil_of_le (by omega)]; rfl
  | j + 1, k, h => by
    rw [List.range'_succ, List.map_cons, List.flatten_cons, chunks_flat es j (k + 1) (by omega), chunk, show 16 * (k + 1) = 16 * k + 16 from by omega, ← List.drop_drop]
    exact List.take_append_drop 16 _
theorem chunks_all (es : List E) : (chunksL es).flatten = es := by
  have h := chunks_flat es (nT es) 0 (by unfold nT; omega)
  simpa [chunksL] using h
theorem stored_file {es : List E} (h : fitB es = true) : storedL (fileB es) = (chunksL es).map blockB := by
  unfold storedL bodyR idxR
  rw [if_pos (file_ok h), if_pos (file_ok h), file_body h, file_idx h, ← bodyF_all, ← idxF_all, sto_file h _ 0 (by omega), chunksL, List.map_map]
  rfl
/-- What a list that was read of bytes is, if the bytes are a file. -/
def Reads (bs : List UInt8) (l : List E) : Prop := ∀ l0, fitB l0 = true → fileB l0 = bs → l0 = l
def NoFile (bs : List UInt8) : Prop := ∀ l, fitB l = true → fileB l ≠ bs
def Once (c : List E) : Prop := fitB c = true ∧ ∀ l0, fitB l0 = true → blockB l0 = blockB c → l0 = c
theorem map_once : ∀ {ls cs : List (List E)}, (∀ c ∈ ls, Once c) → (∀ c ∈ cs, fitB c = true) → cs.map blockB = ls.map blockB → cs = ls
  | [], [], _, _, _ => rfl
  | [], _ :: _, _, _, h => by cases h
  | _ :: _, [], _, _, h => by cases h
  | a :: ls, b :: cs, h1, h2, h => by
    simp only [List.map_cons, List.cons.injEq] at h
    rw [(h1 a (by simp)).2 b (h2 b (by simp)) h.1, map_once (fun c hc => h1 c (by simp [hc])) (fun c hc => h2 c (by simp [hc])) h.2]
theorem reads_done {bs : List UInt8} {ls : List (List E)} (h1 : ∀ c ∈ ls, Once c) (h2 : ls.map blockB = storedL bs) : Reads bs ls.flatten := by
  intro l0 hf hb
  rw [← hb, stored_file hf] at h2
  rw [← map_once h1 (chunks_fit hf) h2.symm, chunks_all]
/-- Parts that are no part of a list's. -/
def Bad (pre : List (List UInt8)) : Prop := ∀ cs : List (List E), (∀ c ∈ cs, fitB c = true) → cs.map blockB = pre → 64 < cs.flatten.length
theorem flat_take {cs : List (List E)} (k : Nat) : (cs.take k).flatten.length ≤ cs.flatten.length := by
  conv => rhs; rw [← List.take_append_drop k cs, List.flatten_append, List.length_append]
  exact Nat.le_add_right _ _
theorem reads_bad {bs : List UInt8} {pre : List (List UInt8)} (h : Bad pre) (hp : pre <+: storedL bs) : NoFile bs := by
  intro l0 hf hb
  rw [← hb, stored_file hf] at hp
  have h1 := h ((chunksL l0).take pre.length) (fun c hc => chunks_fit hf c (List.mem_of_mem_take hc)) (by rw [List.map_take]; exact (List.prefix_iff_eq_take.1 hp).symm)
  have h2 := flat_take (cs := chunksL l0) pre.length
  rw [chunks_all] at h2
  have := (fit_len hf).2
  omega
theorem bad_block {pre : List (List UInt8)} {p : List UInt8} (h : NoBlock p) : Bad (pre ++ [p]) := by
  intro cs hcs he
  have : p ∈ cs.map blockB := by rw [he]; simp
  obtain ⟨c, hc, hb⟩ := List.mem_map.1 this
  exact absurd hb (h c (hcs c hc))
theorem bad_long {ls : List (List E)} (h1 : ∀ c ∈ ls, Once c) (h2 : 64 < ls.flatten.length) : Bad (ls.map blockB) := by
  intro cs hcs he
  rw [map_once h1 hcs he]; exact h2
theorem reads_none {bs : List UInt8} (h : NoFile bs) (l : List E) : Reads bs l := fun l0 hf hb => absurd hb (h l0 hf)
end Go.Proofs.YtcgjhopfdpaocaaDoor
