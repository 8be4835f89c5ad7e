/-
  What entry.Right, marlstoneref03.Right and entry.byKeyAndSeq answer: contracts over this translation.
-/
import Derived.Test.YtiimmknnlciljaaDoorCodec
import Derived.Shelf.SlSortCmp.InsertionK
import Derived.Shelf.Small.Strs
namespace Go.Proofs.YtiimmknnlciljaaDoor
open Go.RowKit Go.Sort
/-- An entry. -/
structure E where
  key : ByteArray
  value : ByteArray
  del : Bool
  seq : Int
def encE (e : E) : List Value := [.string e.key, .string e.value, .bool e.del, .int .i64 e.seq]
def rightB (e : E) : Bool := decide (1 ≤ e.key.size ∧ e.key.size ≤ 128 ∧ e.value.size ≤ 1024 ∧ (e.del = true → e.value.size = 0) ∧ 1 ≤ e.seq ∧ e.seq ≤ 1099511627776)
theorem size_zero (s : ByteArray) : (s.size = 0) ↔ s = ByteArray.empty := by
  constructor
  · intro h; cases s with | mk d => simp [ByteArray.size] at h; subst h; rfl
  · intro h; subst h; rfl
/-- Two strings, byte by byte. -/
def cmpS (a b : ByteArray) : Int := Lib.compareBytes a.data.toList b.data.toList
def cmpI (x y : Int) : Int := if x < y then -1 else if y < x then 1 else 0
def cmpE (a b : E) : Int := if cmpS a.key b.key ≠ 0 then cmpS a.key b.key else cmpI a.seq b.seq
end Go.Proofs.YtiimmknnlciljaaDoor
