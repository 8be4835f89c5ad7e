/-
  Tables and their cells: plain mathematics.
-/
import Derived.Test.YtnkbhojflcckmaaPkA
namespace Go.Proofs.Ytnkbhojflcckmaa
open Go.RowKit
set_option linter.unusedSectionVars false
/-- A table as it is told. -/
structure Tb where
  lv : Int
  ct : Int
  root : List UInt8
  first : ByteArray
  last : ByteArray
  hr : root.length = 32
theorem Tb.same {x y : Tb} (h0 : x.lv = y.lv) (h1 : x.ct = y.ct) (h2 : x.root = y.root) (h3 : x.first = y.first) (h4 : x.last = y.last) : x = y := by
  cases x; cases y; subst h0 h1 h2 h3 h4; rfl
/-- A table of nothing. -/
def zT : Tb := ⟨0, 0, List.replicate 32 0, ByteArray.empty, ByteArray.empty, by simp⟩
/-- Its cells. -/
def encT (x : Tb) : List Value := .int .i64 x.lv :: .int .i64 x.ct :: (cellsOf x.root ++ [.string x.first, .string x.last])
theorem encT_len (x : Tb) : (encT x).length = 36 := by
  rw [encT, List.length_cons, List.length_cons, List.length_append, cellsOf_length, x.hr]; rfl
theorem encT_0 (x : Tb) : (encT x)[0]? = some (.int .i64 x.lv) := rfl
theorem encT_1 (x : Tb) : (encT x)[1]? = some (.int .i64 x.ct) := rfl
theorem encT_34 (x : Tb) : (encT x)[34]? = some (.string x.first) := by
  show (cellsOf x.root ++ _)[32]? = _
  rw [List.getElem?_append_right (by rw [cellsOf_length, x.hr]; omega), cellsOf_length, x.hr]; rfl
theorem encT_35 (x : Tb) : (encT x)[35]? = some (.string x.last) := by
  show (cellsOf x.root ++ _)[33]? = _
  rw [List.getElem?_append_right (by rw [cellsOf_length, x.hr]; omega), cellsOf_length, x.hr]; rfl
theorem encT_root (x : Tb) (j : Nat) (h : j < 32) : (encT x)[2 + j]? = (cellsOf x.root)[j]? := by
  rw [Nat.add_comm]
  show (cellsOf x.root ++ _)[j]? = _
  rw [List.getElem?_append_left (by rw [cellsOf_length, x.hr]; omega)]
theorem encT_one (x : Tb) : ∀ u ∈ encT x, u.oneCell' = true := by
  intro v hv
  rcases List.mem_cons.1 hv with rfl | hv
  · rfl
  rcases List.mem_cons.1 hv with rfl | hv
  · rfl
  rcases List.mem_append.1 hv with hv | hv
  · exact cellsOf_one _ v hv
  · simp only [List.mem_cons, List.not_mem_nil, or_false] at hv
    rcases hv with rfl | rfl <;> rfl
/-- The cells of tables. -/
def flatT (ts : List Tb) : List Value := ts.flatMap encT
theorem flatT_nil : flatT [] = [] := rfl
theorem flatT_cons (x : Tb) (ts : List Tb) : flatT (x :: ts) = encT x ++ flatT ts := by simp [flatT]
theorem flatT_append (a b : List Tb) : flatT (a ++ b) = flatT a ++ flatT b := by simp [flatT]
theorem flatT_single (x : Tb) : flatT [x] = encT x := by simp [flatT]
theorem flatT_len : ∀ ts : List Tb, (flatT ts).length = ts.length * 36
  | [] => rfl
  | x :: ts => by rw [flatT_cons, List.length_append, flatT_len ts, encT_len, List.length_cons]; omega
theorem flatT_one (ts : List Tb) : ∀ u ∈ flatT ts, u.oneCell' = true := by
  intro u hu
  simp only [flatT, List.mem_flatMap] at hu
  obtain ⟨x, _, hx⟩ := hu
  exact encT_one x u hx
theorem getD_at {α : Type} (l : List α) (i : Nat) (z : α) (h : i < l.length) : l.getD i z = l[i] := by
  rw [List.getD_eq_getElem?_getD, List.getElem?_eq_getElem h]; rfl
theorem flatT_at : ∀ (ts : List Tb) (i c : Nat), i < ts.length → c < 36 → (flatT ts)[i * 36 + c]? = (encT (ts.getD i zT))[c]?
  | [], i, c, h, _ => by simp at h
  | x :: ts, 0, c, _, hc => by
    rw [flatT_cons, Nat.zero_mul, Nat.zero_add, List.getElem?_append_left (by rw [encT_len]; exact hc)]; rfl
  | x :: ts, i + 1, c, h, hc => by
    rw [flatT_cons, List.getElem?_append_right (by rw [encT_len]; omega), encT_len, show (i + 1) * 36 + c - 36 = i * 36 + c by omega, flatT_at ts i c (by simpa using h) hc]
    simp
end Go.Proofs.Ytnkbhojflcckmaa
