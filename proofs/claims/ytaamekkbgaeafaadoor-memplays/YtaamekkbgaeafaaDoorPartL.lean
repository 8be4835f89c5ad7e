/-
  What shown answers: a contract over this translation. What entry.read answers: a contract over this translation.
-/
import Derived.Test.YtaamekkbgaeafaaDoorPartN
namespace Go.Proofs.YtaamekkbgaeafaaDoor
open Go.RowKit Go.Sort Go.Shelf
set_option linter.unusedSectionVars false
variable [Inhabited E]
def eB1 : E := ⟨⟨#[98]⟩, ⟨#[]⟩, false, 1⟩
def eA2 : E := ⟨⟨#[97]⟩, ⟨#[]⟩, false, 2⟩
def eB3 : E := ⟨⟨#[98]⟩, ⟨#[]⟩, false, 3⟩
theorem fold_three : foldS [eB1, eA2, eB3] = [eA2, eB3] := by
  have h1 : ¬ cmpS eB1.key eA2.key < 0 := by decide
  have h2 : cmpS eA2.key eB3.key < 0 := by decide
  have h3 : ¬ cmpS eB1.key eB3.key < 0 := by decide
  have h4 : ¬ eB1.key = eA2.key := by decide
  have h5 : eB1.key = eB3.key := by decide
  have h6 : eB1.seq ≤ eB3.seq := by decide
  show insS (insS (insS [] eB1) eA2) eB3 = _
  rw [insS, insS, if_neg h1, if_neg h4, insS, if_pos h2, insS, if_neg h3, if_pos h5, if_pos h6]
theorem bytes_shown : bytesB ⟨⟨#[97]⟩, ⟨#[118]⟩, false, 1⟩ = [0, 1, 1, 97, 1, 118] := by
  have h : rightB ⟨⟨#[97]⟩, ⟨#[118]⟩, false, 1⟩ = true := by decide
  rw [bytesB, h]
  rfl
theorem own_shapeE {w : World} {base : Nat} {v : Value} {n : Nat} {es : List E} (h : w.ownsRow base 29 4 v n (flatE es)) (hn : 0 < n) : ∃ g c, v = .slice (some ⟨g, 0, none⟩) n c ∧ Ents w g 0 es ∧ base ≤ g := by
  have h' := h
  rcases h.2 with ⟨_, h0⟩ | ⟨g, cap, cur, rfl, hb, _⟩
  · omega
  · exact ⟨g, cap, rfl, own_ents h', hb⟩
theorem ents_three (w : World) : Ents (w.alloc (Obj.cells (flatE [eB1, eA2, eB3]).toArray 29)) w.heap.size 0 [eB1, eA2, eB3] := fun j u hu => by
  have hb : (w.alloc (Obj.cells (flatE [eB1, eA2, eB3]).toArray 29)).heap[w.heap.size]? = some (Obj.cells (flatE [eB1, eA2, eB3]).toArray 29) := by rw [heap_alloc_get, if_pos rfl]
  rw [Nat.zero_add, cell_of_row _ _ _ _ _ _ hb]
  simpa using hu
end Go.Proofs.YtaamekkbgaeafaaDoor
namespace Go.Proofs.YtaamekkbgaeafaaDoor
open Go.RowKit Go.Sort Go.Shelf
set_option linter.unusedSectionVars false
variable [Inhabited E]
/-- An entry read off the front of bytes, and how many they are. -/
def readOf (bs : List UInt8) : Option (E × Nat) :=
  match bs with
  | [] => none
  | t :: r =>
    if 1 < t.toNat then none else
    if (getB r).2.2 = false then none else
    if (textOf (r.drop (getB r).2.1)).2.2 = false then none else
    if t.toNat = 1 then some (⟨⟨(textOf (r.drop (getB r).2.1)).1.toArray⟩, ⟨#[]⟩, true, wrap64 ((getB r).1 : Int)⟩, 1 + (getB r).2.1 + (textOf (r.drop (getB r).2.1)).2.1) else
    if (textOf (r.drop ((getB r).2.1 + (textOf (r.drop (getB r).2.1)).2.1))).2.2 = false then none else
    some (⟨⟨(textOf (r.drop (getB r).2.1)).1.toArray⟩, ⟨(textOf (r.drop ((getB r).2.1 + (textOf (r.drop (getB r).2.1)).2.1))).1.toArray⟩, false, wrap64 ((getB r).1 : Int)⟩, 1 + (getB r).2.1 + (textOf (r.drop (getB r).2.1)).2.1 + (textOf (r.drop ((getB r).2.1 + (textOf (r.drop (getB r).2.1)).2.1))).2.1)
def ReadSays (o : Option (E × Nat)) (e : Ending) : Prop :=
  match o with
  | some (x, n) => e = .returned (.tuple #[.agg (encE x).toArray, .int .i64 (n : Nat), .bool true])
  | none => ∃ (x : E) (n : Int), e = .returned (.tuple #[.agg (encE x).toArray, .int .i64 n, .bool false])
theorem textOf_nil : textOf [] = ([], 0, false) := rfl
theorem getB_nil : getB [] = (0, 0, false) := rfl
theorem textOf_len (bs : List UInt8) (h : (textOf bs).2.2 = true) : (textOf bs).2.1 ≤ bs.length := by
  unfold textOf at h ⊢
  split at h
  · cases h
  · rename_i hc
    rw [if_neg hc]
    have h1 : (getB bs).2.2 = true := by cases hh : (getB bs).2.2 with | true => rfl | false => exact absurd (.inl hh) hc
    have := getB_once bs (getB bs).1 (getB bs).2.1 (by rw [← h1])
    simp only
    omega
theorem results_entry3 {fn : Func} {p u v : Tmp} (h : fn.results = #[.cell p 29, .tmp u, .tmp v]) (tmps : Array Value) (w : World) (g : Nat) (t : TypeId) (cs : Array Value) (fr : Nat × Nat)
    (hp : tmps.getD p undef = .pointer (some ⟨g, 0, none⟩)) (hg : w.heap[g]? = some (.cells cs t fr)) (hi : (Tryd.prog.info? 29).map (·.size) = some cs.size) :
    (results fn tmps).run Tryd.prog w = .ok (.tuple #[.agg cs, tmps.getD u undef, tmps.getD v undef]) w := by
  have hp' : tmps[p]?.getD undef = .pointer (some ⟨g, 0, none⟩) := by simpa using hp
  simp [results, h, hp', asAddr, run_loadVar_row w g t 29 cs fr _ hg Tryd.underlying29 rfl hi]
theorem size23 : (Tryd.prog.info? 29).map (·.size) = some 4 := by kernel_rfl
end Go.Proofs.YtaamekkbgaeafaaDoor
