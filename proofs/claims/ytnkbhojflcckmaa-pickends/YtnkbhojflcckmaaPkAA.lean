/-
  The ends of a range, tables that are counted: mathematics.
-/
import Derived.Test.YtnkbhojflcckmaaPkZ
import Derived.Test.YtnkbhojflcckmaaPkW
namespace Go.Proofs.Ytnkbhojflcckmaa
open Go.RowKit
set_option linter.unusedSectionVars false
/-- The slice whose elements are the bytes bs. -/
def Bytes (w : World) (ao : Option Addr) (len : Nat) (bs : List UInt8) : Prop :=
  bs.length = len ∧ ∀ i c, bs[i]? = some c → ∃ x, ao = some x ∧ w.cell? (x.add i) = some (.int .u8 c.toNat)
theorem cellsOf_at {bs : List UInt8} {j : Nat} {u : Value} (h : (cellsOf bs)[j]? = some u) : ∃ c, bs[j]? = some c ∧ u = .int .u8 c.toNat := by
  simp only [cellsOf, List.getElem?_map, Option.map_eq_some_iff] at h
  obtain ⟨c, hc, rfl⟩ := h
  exact ⟨c, hc, rfl⟩
theorem foldl_push (bs : List UInt8) : ∀ s : ByteArray, (bs.map (fun b => (b.toNat : Int))).foldl (fun r n => r.push (UInt8.ofNat n.toNat)) s = ⟨s.data ++ bs.toArray⟩ := by
  induction bs with
  | nil => intro s; simp
  | cons b t ih =>
    intro s
    rw [List.map_cons, List.foldl_cons, ih]
    have hb : UInt8.ofNat ((b.toNat : Int)).toNat = b := by simp
    rw [hb]
    show ByteArray.mk (s.data.push b ++ t.toArray) = _
    simp
theorem foldl_bytes (bs : List UInt8) : (bs.map (fun b => (b.toNat : Int))).foldl (fun r n => r.push (UInt8.ofNat n.toNat)) ByteArray.empty = ⟨bs.toArray⟩ := by
  rw [foldl_push]
  show ByteArray.mk (#[] ++ bs.toArray) = _
  simp
/-- 'string(b)'. -/
theorem str_bytes {w : World} {ao : Option Addr} {n : Nat} {bs : List UInt8} (cap : Nat) (h : Bytes w ao n bs) :
    (convert 39 9 (.slice ao n cap)).run Try.prog w = .ok (.string ⟨bs.toArray⟩) w := by
  rw [run_convert_bytes_string w 39 9 5 _ _ _ Try.underlying39 Try.underlying5 Try.underlying9]
  cases ao with
  | none =>
    have hb : bs = [] := by
      cases bs with
      | nil => rfl
      | cons b t =>
        obtain ⟨x, hx, _⟩ := h.2 0 b (by simp)
        cases hx
    subst hb
    simp [Conv.bytesToString]
    rfl
  | some x =>
    have hl := run_loadCells_list (P := Try.prog) (w := w) x (cellsOf bs) (fun j u hu => by
      obtain ⟨c, hc, rfl⟩ := cellsOf_at hu
      obtain ⟨y, hy, hcell⟩ := h.2 j c hc
      cases hy
      exact hcell)
    rw [cellsOf_length, h.1] at hl
    have e : cellsOf bs = (bs.map fun b => (b.toNat : Int)).map (Value.int .u8) := by simp [cellsOf]
    rw [e] at hl
    rw [run_bytesToString w x n cap _ hl, foldl_bytes]
/-- Two bytes that were written out. -/
theorem bytes_two (w : World) (a b : UInt8) : Bytes (w.alloc (.cells #[.int .u8 (a.toNat : Int), .int .u8 (b.toNat : Int)] 5)) (some ⟨w.heap.size, 0, none⟩) 2 [a, b] := by
  refine ⟨rfl, fun i c hi => ⟨_, rfl, ?_⟩⟩
  match i, hi with
  | 0, hi => simp at hi; subst hi; simp [Addr.add]
  | 1, hi => simp at hi; subst hi; simp [Addr.add]
  | n + 2, hi => simp at hi
/-! ### The ends of a range -/
theorem minN_mem (l : List ByteArray) : ∀ i, 1 ≤ i → i ≤ l.length → ∃ j, j < i ∧ minN l i = l.getD j ByteArray.empty
  | 0, h, _ => by omega
  | 1, _, _ => ⟨0, by omega, minN_one l⟩
  | i + 2, _, h => by
    obtain ⟨j, h1, h2⟩ := minN_mem l (i + 1) (by omega) (by omega)
    rw [minN_succ l (i + 1) (by omega) (by omega)]
    rcases (minS_le (minN l (i + 1)) (l.getD (i + 1) ByteArray.empty)).2.2 with h3 | h3
    · exact ⟨j, by omega, by rw [h3, h2]⟩
    · exact ⟨i + 1, by omega, h3⟩
theorem maxN_mem (l : List ByteArray) : ∀ i, 1 ≤ i → i ≤ l.length → ∃ j, j < i ∧ maxN l i = l.getD j ByteArray.empty
  | 0, h, _ => by omega
  | 1, _, _ => ⟨0, by omega, maxN_one l⟩
  | i + 2, _, h => by
    obtain ⟨j, h1, h2⟩ := maxN_mem l (i + 1) (by omega) (by omega)
    rw [maxN_succ l (i + 1) (by omega) (by omega)]
    rcases (maxS_le (maxN l (i + 1)) (l.getD (i + 1) ByteArray.empty)).2.2 with h3 | h3
    · exact ⟨j, by omega, by rw [h3, h2]⟩
    · exact ⟨i + 1, by omega, h3⟩
theorem minN_le (l : List ByteArray) : ∀ i, 1 ≤ i → i ≤ l.length → ∀ j, j < i → cmpS (minN l i) (l.getD j ByteArray.empty) ≤ 0
  | 0, h, _ => by omega
  | 1, _, _ => fun j hj => by
    obtain rfl : j = 0 := by omega
    rw [minN_one, cmpS_ord.self]; omega
  | i + 2, _, h => fun j hj => by
    rw [minN_succ l (i + 1) (by omega) (by omega)]
    have h1 := minS_le (minN l (i + 1)) (l.getD (i + 1) ByteArray.empty)
    by_cases hj2 : j < i + 1
    · exact cmpS_ord.trans _ _ _ h1.1 (minN_le l (i + 1) (by omega) (by omega) j hj2)
    · obtain rfl : j = i + 1 := by omega
      exact h1.2.1
theorem maxN_ge (l : List ByteArray) : ∀ i, 1 ≤ i → i ≤ l.length → ∀ j, j < i → cmpS (l.getD j ByteArray.empty) (maxN l i) ≤ 0
  | 0, h, _ => by omega
  | 1, _, _ => fun j hj => by
    obtain rfl : j = 0 := by omega
    rw [maxN_one, cmpS_ord.self]; omega
  | i + 2, _, h => fun j hj => by
    rw [maxN_succ l (i + 1) (by omega) (by omega)]
    have h1 := maxS_le (maxN l (i + 1)) (l.getD (i + 1) ByteArray.empty)
    by_cases hj2 : j < i + 1
    · exact cmpS_ord.trans _ _ _ (maxN_ge l (i + 1) (by omega) (by omega) j hj2) h1.1
    · obtain rfl : j = i + 1 := by omega
      exact h1.2.1
theorem map_at (xs : List Tb) (p : Tb → ByteArray) (j : Nat) (h : j < xs.length) : (xs.map p).getD j ByteArray.empty = p xs[j] := by
  rw [List.getD_eq_getElem?_getD, List.getElem?_eq_getElem (by simpa using h)]
  simp
theorem loT_mem {xs : List Tb} (h : xs ≠ []) : ∃ x ∈ xs, loT xs = x.first := by
  have hl := List.length_pos_iff.2 h
  obtain ⟨j, h1, h2⟩ := minN_mem (xs.map Tb.first) xs.length hl (by simp)
  exact ⟨xs[j], List.getElem_mem h1, by unfold loT; rw [h2, map_at xs _ j h1]⟩
theorem hiT_mem {xs : List Tb} (h : xs ≠ []) : ∃ x ∈ xs, hiT xs = x.last := by
  have hl := List.length_pos_iff.2 h
  obtain ⟨j, h1, h2⟩ := maxN_mem (xs.map Tb.last) xs.length hl (by simp)
  exact ⟨xs[j], List.getElem_mem h1, by unfold hiT; rw [h2, map_at xs _ j h1]⟩
theorem loT_le {xs : List Tb} {x : Tb} (h : x ∈ xs) : cmpS (loT xs) x.first ≤ 0 := by
  obtain ⟨j, hj, rfl⟩ := List.getElem_of_mem h
  have := minN_le (xs.map Tb.first) xs.length (by omega) (by simp) j hj
  rw [map_at xs _ j hj] at this
  exact this
theorem hiT_ge {xs : List Tb} {x : Tb} (h : x ∈ xs) : cmpS x.last (hiT xs) ≤ 0 := by
  obtain ⟨j, hj, rfl⟩ := List.getElem_of_mem h
  have := maxN_ge (xs.map Tb.last) xs.length (by omega) (by simp) j hj
  rw [map_at xs _ j hj] at this
  exact this
/-! ### Tables that are counted -/
def keyB (l i : Nat) : ByteArray := ⟨#[UInt8.ofNat (97 + l), UInt8.ofNat i]⟩
def cT (l i : Nat) : Tb := mkT l 1 (keyB l i) (keyB l i)
def rowC (l k : Nat) : List Tb := (List.range k).map (cT l)
theorem rowC_succ (l k : Nat) : rowC l (k + 1) = rowC l k ++ [cT l k] := by unfold rowC; rw [List.range_succ, List.map_append]; rfl
theorem rowC_len (l k : Nat) : (rowC l k).length = k := by simp [rowC]
def lstC (N : List Nat) (k : Nat) : List Tb := (List.range k).flatMap fun l => rowC l (N.getD l 0)
theorem lstC_succ (N : List Nat) (k : Nat) : lstC N (k + 1) = lstC N k ++ rowC k (N.getD k 0) := by
  unfold lstC; rw [List.range_succ, List.flatMap_append]; simp
theorem mem_rowC {l k : Nat} {x : Tb} (h : x ∈ rowC l k) : ∃ i, i < k ∧ x = cT l i := by
  simp only [rowC, List.mem_map, List.mem_range] at h
  obtain ⟨i, hi, rfl⟩ := h
  exact ⟨i, hi, rfl⟩
theorem mem_lstC {N : List Nat} {k : Nat} {x : Tb} (h : x ∈ lstC N k) : ∃ l i, l < k ∧ i < N.getD l 0 ∧ x = cT l i := by
  simp only [lstC, List.mem_flatMap, List.mem_range] at h
  obtain ⟨l, hl, h2⟩ := h
  obtain ⟨i, hi, rfl⟩ := mem_rowC h2
  exact ⟨l, i, hl, hi, rfl⟩
theorem cnt_rowC (l k : Nat) (m : Nat) : cnt (rowC l k) m = if l = m then k else 0 := by
  unfold cnt
  by_cases h : l = m
  · rw [if_pos h]
    have : (rowC l k).countP (onB m) = (rowC l k).length := List.countP_eq_length.2 (fun x hx => by
      obtain ⟨i, _, rfl⟩ := mem_rowC hx
      simp only [onB, decide_eq_true_eq]
      show (l : Int) = m
      omega)
    rw [this, rowC_len]
  · rw [if_neg h]
    exact List.countP_eq_zero.2 (fun x hx => by
      obtain ⟨i, _, rfl⟩ := mem_rowC hx
      simp only [onB, decide_eq_true_eq]
      show ¬ (l : Int) = m
      omega)
theorem cnt_append (a b : List Tb) (l : Int) : cnt (a ++ b) l = cnt a l + cnt b l := List.countP_append
theorem cnt_lstC (N : List Nat) (m : Nat) : ∀ k, cnt (lstC N k) m = if m < k then N.getD m 0 else 0
  | 0 => by simp [lstC, cnt]
  | k + 1 => by
    rw [lstC_succ, cnt_append, cnt_lstC N m k, cnt_rowC]
    by_cases h : k = m
    · subst h; rw [if_neg (by omega), if_pos rfl, if_pos (by omega)]; omega
    · rw [if_neg h]
      by_cases h2 : m < k
      · rw [if_pos h2, if_pos (by omega)]; rfl
      · rw [if_neg h2, if_neg (by omega)]
theorem key_apart (l i j : Nat) (hl : l < 3) : ¬ cmpS (keyB (l + 1) i) (keyB l j) ≤ 0 := by
  have h1 : Op.bytesLess (keyB l j).toList (keyB (l + 1) i).toList = true := by
    have e1 : (keyB l j).toList = [UInt8.ofNat (97 + l), UInt8.ofNat j] := by unfold keyB; simp [Lib.toList_data]
    have e2 : (keyB (l + 1) i).toList = [UInt8.ofNat (97 + (l + 1)), UInt8.ofNat i] := by unfold keyB; simp [Lib.toList_data]
    rw [e1, e2]
    match l, hl with
    | 0, _ => simp [Op.bytesLess]
    | 1, _ => simp [Op.bytesLess]
    | 2, _ => simp [Op.bytesLess]
  rw [less_cmpS] at h1
  have h2 := of_decide_eq_true h1
  have := cmpS_ord.anti (keyB l j) (keyB (l + 1) i)
  omega
/-- Nothing of the next level is met. -/
theorem low_none (N : List Nat) (k f : Nat) (hf : f < 3) (hu : upL (lstC N k) f ≠ []) : lowL (lstC N k) f = [] := by
  have hh : ∃ x ∈ tabsAt (lstC N k) (upL (lstC N k) f), hiP (lstC N k) f (lstC N k).length = x.last := hiT_mem (tabsAt_nil hu)
  obtain ⟨x, hx, hxe⟩ := hh
  simp only [tabsAt, List.mem_map] at hx
  obtain ⟨j, hj, rfl⟩ := hx
  obtain ⟨hj1, hj2⟩ := mem_upN.1 hj
  simp only [mineB, Bool.and_eq_true, decide_eq_true_eq] at hj2
  obtain ⟨l, i, _, _, hc⟩ := mem_lstC (getD_mem hj1)
  rw [hc] at hj2 hxe
  have hlf : l = f := by have : (l : Int) = f := hj2.1; omega
  subst hlf
  unfold lowL plc
  rw [List.filter_eq_nil_iff]
  intro p hp
  have hp2 := List.mem_range.1 hp
  obtain ⟨l', i', _, _, hc'⟩ := mem_lstC (getD_mem hp2)
  rw [hc', hxe]
  unfold touB
  by_cases h : (l' : Int) = (l : Int) + 1
  · have h' : l' = l + 1 := by omega
    subst h'
    have := key_apart l i' i hf
    show ¬ ((decide _ && decide (cmpS (keyB (l + 1) i') (keyB l i) ≤ 0)) && _) = true
    rw [decide_eq_false this]; simp
  · show ¬ ((decide ((l' : Int) = (l : Int) + 1) && _) && _) = true
    rw [decide_eq_false h]; simp
theorem up_len0 (ts : List Tb) : (upL ts 0).length = cnt ts 0 := by unfold upL; rw [upN_zero]; exact plc_count _ _
theorem up_len1 (ts : List Tb) {f : Nat} (hf : f ≠ 0) (hc : 1 ≤ cnt ts f) : (upL ts f).length = 1 := by
  unfold upL; rw [upN_pos ts f hf, List.length_take]
  have := plc_count (onB f) ts
  unfold cnt at hc
  omega
theorem in_len (ts : List Tb) (f : Nat) : (inL ts f).length = (upL ts f).length + (lowL ts f).length := by
  rw [← (in_perm ts f).length_eq, List.length_append]
/-- How many are picked of tables that are counted. -/
theorem counts_math (N : List Nat) {f : Nat} (h : pickF (lstC N 4) = some f) : (inL (lstC N 4) f).length = if f = 0 then N.getD 0 0 else 1 := by
  have hf := pickF_lt h
  rw [in_len, low_none N 4 f hf (up_one h), List.length_nil, Nat.add_zero]
  by_cases h0 : f = 0
  · subst h0
    rw [if_pos rfl, up_len0]
    have := cnt_lstC N 0 4
    rw [if_pos (by omega)] at this
    exact this
  · rw [if_neg h0]
    refine up_len1 _ h0 ?_
    have h1 := up_one h
    have h2 := plc_count (onB f) (lstC N 4)
    unfold cnt
    rw [← h2]
    have : plc (onB f) (lstC N 4) (lstC N 4).length ≠ [] := fun h9 => h1 (by unfold upL; exact upN_empty h9)
    exact List.length_pos_iff.2 this
theorem pickF_counts (N : List Nat) : pickF (lstC N 4) = if 4 < N.getD 0 0 then some 0 else if 8 < N.getD 1 0 then some 1 else if 32 < N.getD 2 0 then some 2 else none := by
  rw [pickF_cnt]
  have h0 : cnt (lstC N 4) 0 = N.getD 0 0 := by have := cnt_lstC N 0 4; rw [if_pos (by omega)] at this; exact this
  have h1 : cnt (lstC N 4) 1 = N.getD 1 0 := by have := cnt_lstC N 1 4; rw [if_pos (by omega)] at this; exact this
  have h2 : cnt (lstC N 4) 2 = N.getD 2 0 := by have := cnt_lstC N 2 4; rw [if_pos (by omega)] at this; exact this
  rw [h0, h1, h2]
end Go.Proofs.Ytnkbhojflcckmaa
