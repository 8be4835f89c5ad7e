/-
  Tables, their bytes and what is read of bytes: plain mathematics, no program.
-/
import Derived.Test.YtiimmknnlciljaaDoorSkA
namespace Go.Proofs.YtiimmknnlciljaaDoor
open Go.RowKit Go.Sort Go.Shelf
set_option linter.unusedSectionVars false
/-- A table as it is told. -/
structure Tb where
  lv : Int
  ct : Int
  root : List UInt8
  first : ByteArray
  last : ByteArray
  hr : root.length = 32
theorem Tb.same {x y : Tb} (h0 : x.lv = y.lv) (h1 : x.ct = y.ct) (h2 : x.root = y.root) (h3 : x.first = y.first) (h4 : x.last = y.last) : x = y := by
  cases x; cases y; subst h0 h1 h2 h3 h4; rfl
/-- A table of nothing. -/
def zT : Tb := ⟨0, 0, List.replicate 32 0, ByteArray.empty, ByteArray.empty, by simp⟩
/-- Its cells. -/
def encT (x : Tb) : List Value := .int .i64 x.lv :: .int .i64 x.ct :: (cellsOf x.root ++ [.string x.first, .string x.last])
theorem encT_len (x : Tb) : (encT x).length = 36 := by
  rw [encT, List.length_cons, List.length_cons, List.length_append, cellsOf_length, x.hr]; rfl
theorem encT_0 (x : Tb) : (encT x)[0]? = some (.int .i64 x.lv) := rfl
theorem encT_1 (x : Tb) : (encT x)[1]? = some (.int .i64 x.ct) := rfl
theorem encT_34 (x : Tb) : (encT x)[34]? = some (.string x.first) := by
  show (cellsOf x.root ++ _)[32]? = _
  rw [List.getElem?_append_right (by rw [cellsOf_length, x.hr]; omega), cellsOf_length, x.hr]; rfl
theorem encT_35 (x : Tb) : (encT x)[35]? = some (.string x.last) := by
  show (cellsOf x.root ++ _)[33]? = _
  rw [List.getElem?_append_right (by rw [cellsOf_length, x.hr]; omega), cellsOf_length, x.hr]; rfl
theorem encT_root (x : Tb) (j : Nat) (h : j < 32) : (encT x)[2 + j]? = (cellsOf x.root)[j]? := by
  rw [Nat.add_comm]
  show (cellsOf x.root ++ _)[j]? = _
  rw [List.getElem?_append_left (by rw [cellsOf_length, x.hr]; omega)]
theorem encT_one (x : Tb) : ∀ u ∈ encT x, u.oneCell' = true := by
  intro v hv
  rcases List.mem_cons.1 hv with rfl | hv
  · rfl
  rcases List.mem_cons.1 hv with rfl | hv
  · rfl
  rcases List.mem_append.1 hv with hv | hv
  · exact cellsOf_one _ v hv
  · simp only [List.mem_cons, List.not_mem_nil, or_false] at hv
    rcases hv with rfl | rfl <;> rfl
/-- The cells of tables. -/
def flatT (ts : List Tb) : List Value := ts.flatMap encT
theorem flatT_nil : flatT [] = [] := rfl
theorem flatT_cons (x : Tb) (ts : List Tb) : flatT (x :: ts) = encT x ++ flatT ts := by simp [flatT]
theorem flatT_append (a b : List Tb) : flatT (a ++ b) = flatT a ++ flatT b := by simp [flatT]
theorem flatT_single (x : Tb) : flatT [x] = encT x := by simp [flatT]
theorem flatT_len : ∀ ts : List Tb, (flatT ts).length = ts.length * 36
  | [] => rfl
  | x :: ts => by rw [flatT_cons, List.length_append, flatT_len ts, encT_len, List.length_cons]; omega
theorem flatT_one (ts : List Tb) : ∀ u ∈ flatT ts, u.oneCell' = true := by
  intro u hu
  simp only [flatT, List.mem_flatMap] at hu
  obtain ⟨x, _, hx⟩ := hu
  exact encT_one x u hx
theorem getD_at {α : Type} (l : List α) (i : Nat) (z : α) (h : i < l.length) : l.getD i z = l[i] := by
  rw [List.getD_eq_getElem?_getD, List.getElem?_eq_getElem h]; rfl
theorem flatT_at : ∀ (ts : List Tb) (i c : Nat), i < ts.length → c < 36 → (flatT ts)[i * 36 + c]? = (encT (ts.getD i zT))[c]?
  | [], i, c, h, _ => by simp at h
  | x :: ts, 0, c, _, hc => by
    rw [flatT_cons, Nat.zero_mul, Nat.zero_add, List.getElem?_append_left (by rw [encT_len]; exact hc)]; rfl
  | x :: ts, i + 1, c, h, hc => by
    rw [flatT_cons, List.getElem?_append_right (by rw [encT_len]; omega), encT_len, show (i + 1) * 36 + c - 36 = i * 36 + c by omega, flatT_at ts i c (by simpa using h) hc]
    simp
/-! ### Right -/
def keyB (s : ByteArray) : Bool := decide (1 ≤ s.size) && decide (s.size ≤ 128)
/-- A table by itself. -/
def oneT (x : Tb) : Prop := 0 ≤ x.lv ∧ x.lv < 4 ∧ 1 ≤ x.ct ∧ x.ct ≤ 64 ∧ keyB x.first = true ∧ keyB x.last = true ∧ cmpS x.first x.last ≤ 0 ∧ (x.first = x.last ↔ x.ct = 1)
/-- One may stand behind another. -/
def nextT (a x : Tb) : Prop := if a.lv = x.lv then x.lv = 0 ∨ cmpS a.last x.first < 0 else a.lv < x.lv
def okT (l : List Tb) (i : Nat) : Prop := oneT (l.getD i zT) ∧ (0 < i → nextT (l.getD (i - 1) zT) (l.getD i zT))
def rightT (l : List Tb) : Prop := l.length ≤ 512 ∧ ∀ i, i < l.length → okT l i
/-- As a test. -/
noncomputable def rightTB (l : List Tb) : Bool := @decide (rightT l) (Classical.propDecidable _)
noncomputable def oneTB (x : Tb) : Bool := @decide (oneT x) (Classical.propDecidable _)
noncomputable def nextTB (a x : Tb) : Bool := @decide (nextT a x) (Classical.propDecidable _)
theorem rightTB_iff {l : List Tb} : rightTB l = true ↔ rightT l := by unfold rightTB; exact @decide_eq_true_iff _ (Classical.propDecidable _)
theorem oneTB_iff {x : Tb} : oneTB x = true ↔ oneT x := by unfold oneTB; exact @decide_eq_true_iff _ (Classical.propDecidable _)
theorem nextTB_iff {a x : Tb} : nextTB a x = true ↔ nextT a x := by unfold nextTB; exact @decide_eq_true_iff _ (Classical.propDecidable _)
theorem bool_of {b c : Bool} {p : Prop} (h1 : b = true ↔ p) (h2 : c = true ↔ p) : b = c := by
  cases b <;> cases c <;> simp_all
/-! ### Bytes -/
def writtenB (x : Tb) : List UInt8 := putB x.lv.toNat ++ putB x.ct.toNat ++ x.root ++ textB (strB x.first) ++ textB (strB x.last)
def sumB (l : List Tb) : List UInt8 := putB l.length ++ l.flatMap writtenB
theorem textB_length (s : List UInt8) : (textB s).length ≤ 10 + s.length := by
  unfold textB; rw [List.length_append]; have := putB_le s.length; omega
theorem writtenB_len {x : Tb} (h : oneT x) : (writtenB x).length ≤ 328 := by
  unfold writtenB
  have h1 := putB_le x.lv.toNat
  have h2 := putB_le x.ct.toNat
  have h3 := textB_length (strB x.first)
  have h4 := textB_length (strB x.last)
  have h5 := strB_length x.first
  have h6 := strB_length x.last
  have h7 := h.2.2.2.2.1
  have h8 := h.2.2.2.2.2.1
  simp only [keyB, Bool.and_eq_true, decide_eq_true_eq] at h7 h8
  simp only [List.length_append, x.hr]
  omega
theorem flat_len {l : List Tb} (h : ∀ x ∈ l, oneT x) : (l.flatMap writtenB).length ≤ 328 * l.length := by
  induction l with
  | nil => simp
  | cons x l ih =>
    rw [List.flatMap_cons, List.length_append, List.length_cons]
    have h1 := writtenB_len (h x (by simp))
    have h2 := ih (fun y hy => h y (by simp [hy]))
    omega
theorem right_mem {l : List Tb} (h : rightT l) : ∀ x ∈ l, oneT x := by
  intro x hx
  obtain ⟨i, hi, rfl⟩ := List.mem_iff_getElem.1 hx
  have := (h.2 i hi).1
  rwa [getD_at l i zT hi] at this
theorem sumB_len {l : List Tb} (h : rightT l) : (sumB l).length ≤ 10 + 328 * l.length := by
  unfold sumB; rw [List.length_append]
  have := putB_le l.length
  have := flat_len (right_mem h)
  omega
end Go.Proofs.YtiimmknnlciljaaDoor
