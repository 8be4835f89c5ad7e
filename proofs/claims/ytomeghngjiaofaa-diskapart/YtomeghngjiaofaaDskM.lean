/-
  A map of names to files, seen as a function: no walk.
-/
import Derived.Test.YtomeghngjiaofaaBas
import Derived.Maps.OwnSet
import Derived.Maps.Views
import Derived.StringKeys
namespace Go.Proofs.Ytomeghngjiaofaa
open Go.RowKit Go.WideMaps Go.Maps
def ptrCode : Option Nat → Int
  | none => 0
  | some g => (g : Int) + 1
def ptrV : Option Nat → Value
  | none => .pointer none
  | some g => .pointer (some ⟨g, 0, none⟩)
def ptrElem (v : Value) : Option (DataW Unit × List MemPlace) :=
  match v with
  | .pointer none => some (.lit (.int .i64 0), [])
  | .pointer (some ⟨g, 0, none⟩) => some (.lit (.int .i64 ((g : Int) + 1)), [])
  | _ => none
theorem ptrElem_mk (o : Option Nat) : ptrElem (ptrV o) = some (.lit (.int .i64 (ptrCode o)), []) := by cases o <;> rfl
theorem ptrElem_inv {v : Value} {o : Option Nat} {ps : List MemPlace} (h : ptrElem v = some (.lit (.int .i64 (ptrCode o)), ps)) : v = ptrV o := by
  unfold ptrElem at h
  split at h
  · cases o with
    | none => rfl
    | some g => simp [ptrCode] at h; omega
  · cases o with
    | none => simp [ptrCode] at h; omega
    | some g => simp [ptrCode] at h; obtain ⟨e, -⟩ := h; obtain rfl := Int.ofNat.inj e; rfl
  · cases h
/-- The map in block b is f. -/
def FilesAt (w : World) (b n : Nat) (f : ByteArray → Option Nat) : Prop :=
  ∃ D, w.ownsMap Try.prog 9 ptrElem b n D ∧ ∀ s : ByteArray, s.size ≤ maxLen → D.atKey (.string s.data.toList) (.lit (.int .i64 0)) = .lit (.int .i64 (ptrCode (f s))) ∧ has D (.string s.data.toList) = (f s).isSome
theorem key9 {s : ByteArray} (hs : s.size ≤ maxLen) : keyOf Try.prog 9 (.string s) = some (.string s.data.toList) := keyOf_string_mk Try.underlying9 hs
theorem zero74 (w : World) : (zeroValue 74).run Try.prog w = .ok (.pointer none) w := by kernel_rfl
theorem str_inj {s t : ByteArray} (h : s ≠ t) : Lit.string s.data.toList ≠ Lit.string t.data.toList := by
  intro e
  injection e with e
  apply h
  cases s; cases t
  congr 1
  exact Array.toList_inj.1 e
theorem FilesAt.look {w : World} {b n : Nat} {f : ByteArray → Option Nat} (h : FilesAt w b n f) {s : ByteArray} (hs : s.size ≤ maxLen) : (Instr.lookup 66 (.map (some b)) (.string s) false).run Try.prog w = .ok (ptrV (f s)) w := by
  obtain ⟨D, h1, h2⟩ := h
  obtain ⟨v, ps, hrun, hv⟩ := h1.lookup (string_keyed Try.underlying9) Try.underlying66 (zero74 w) (ptrElem_mk none) (key9 hs)
  rw [show (DataW.lit (Lit.int .i64 (ptrCode none)) : DataW Unit) = .lit (.int .i64 0) from rfl, (h2 s hs).1] at hv
  rw [hrun, ptrElem_inv hv]
theorem FilesAt.put {w : World} {b n : Nat} {f : ByteArray → Option Nat} (h : FilesAt w b n f) (hn : n < maxLen) {s : ByteArray} (hs : s.size ≤ maxLen) (o : Option Nat) (ho : o.isSome = true := by rfl) : ∃ w', (Instr.mapUpdate 66 (.map (some b)) (.string s) (ptrV o)).run Try.prog w = .ok () w' ∧ FilesAt w' b (n + 1) (fun t => if t = s then o else f t) ∧ w.mapTurned w' b := by
  obtain ⟨D, h1, h2⟩ := h
  obtain ⟨w', hrun, hown, ht⟩ := h1.store (string_keyed Try.underlying9) Try.underlying66 hn (key9 hs) (ptrElem_mk o)
  refine ⟨w', hrun, ⟨_, hown, fun t htl => ?_⟩, ht⟩
  show _ = DataW.lit (Lit.int .i64 (ptrCode (if t = s then o else f t))) ∧ _ = (if t = s then o else f t).isSome
  by_cases e : t = s
  · subst e
    rw [if_pos rfl, atKey_put_same h1.isMap ((string_keyed Try.underlying9).key (key9 hs)), has_put_same h1.isMap ((string_keyed Try.underlying9).key (key9 hs)), ho]
    exact ⟨rfl, rfl⟩
  · rw [if_neg e, atKey_put_other (str_inj e), has_put_other (str_inj e)]; exact h2 t htl
theorem FilesAt.del {w : World} {b n : Nat} {f : ByteArray → Option Nat} (h : FilesAt w b n f) {s : ByteArray} (hs : s.size ≤ maxLen) (ty : TypeId) : ∃ w', (Builtin.delete_ #[66, 9] ty #[.map (some b), .string s]).run Try.prog w = .ok (.tuple #[]) w' ∧ FilesAt w' b n (fun t => if t = s then none else f t) ∧ w.mapTurned w' b := by
  obtain ⟨D, h1, h2⟩ := h
  obtain ⟨w', hrun, hown, ht⟩ := h1.drop (string_keyed Try.underlying9) Try.underlying66 (key9 hs) ty
  refine ⟨w', hrun, ⟨_, hown, fun t htl => ?_⟩, ht⟩
  show _ = DataW.lit (Lit.int .i64 (ptrCode (if t = s then none else f t))) ∧ _ = (if t = s then none else f t).isSome
  by_cases e : t = s
  · subst e
    rw [if_pos rfl, atKey_del_same, has_del_same]
    exact ⟨rfl, rfl⟩
  · rw [if_neg e, atKey_del_other (str_inj e), has_del_other (str_inj e)]; exact h2 t htl
theorem FilesAt.made (w : World) : FilesAt (w.alloc (.map #[] 0)) w.heap.size 0 (fun _ => none) := ⟨_, World.ownsMap_made w Try.prog 9 ptrElem, fun _ _ => ⟨rfl, rfl⟩⟩
theorem FilesAt.kept {w w' : World} {b n : Nat} {f : ByteArray → Option Nat} {row : Option Nat} (h : FilesAt w b n f) (hg : w.grownBy w' row) (hne : some b ≠ row) : FilesAt w' b n f := by
  obtain ⟨D, h1, h2⟩ := h
  exact ⟨D, h1.kept hg hne, h2⟩
theorem FilesAt.lt {w : World} {b n : Nat} {f : ByteArray → Option Nat} (h : FilesAt w b n f) : b < w.heap.size := by
  obtain ⟨D, h1, h2⟩ := h
  exact h1.lt
end Go.Proofs.Ytomeghngjiaofaa
