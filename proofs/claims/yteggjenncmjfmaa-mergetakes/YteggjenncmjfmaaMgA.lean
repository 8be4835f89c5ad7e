/-
  The heads in memory: a struct, its row, and what of them stays when blocks turn.
-/
import Derived.Test.YteggjenncmjfmaaMgM
import Derived.Test.YteggjenncmjfmaaMapD
import Derived.Deep.AppendLies
import Derived.Maps.AppendAt
namespace Go.Proofs.Yteggjenncmjfmaa
open Go.RowKit
set_option linter.unusedSectionVars false
variable [Inhabited E] [DecidableEq E]
/-- Nothing that lay there turned but blocks of 'own'. -/
structure Only (own : Nat → Prop) (w w' : World) : Prop where
  os : w'.os = w.os
  tape : w'.tape = w.tape
  output : w'.output = w.output
  size : w.heap.size ≤ w'.heap.size
  block : ∀ k, k < w.heap.size → ¬ own k → w'.heap[k]? = w.heap[k]?
def grow (own : Nat → Prop) (w : World) (k : Nat) : Prop := own k ∨ w.heap.size ≤ k
theorem Only.refl (own : Nat → Prop) (w : World) : Only own w w := ⟨rfl, rfl, rfl, Nat.le_refl _, fun _ _ _ => rfl⟩
theorem Only.trans {own own' : Nat → Prop} {a b c : World} (h : Only own a b) (k : Only own' b c) (hs : ∀ i, own' i → grow own a i) : Only own a c :=
  ⟨k.os.trans h.os, k.tape.trans h.tape, k.output.trans h.output, Nat.le_trans h.size k.size, fun i hi hn => (k.block i (Nat.lt_of_lt_of_le hi h.size) (fun e => by
    rcases hs i e with q | q
    · exact hn q
    · omega)).trans (h.block i hi hn)⟩
theorem Only.mono {own own' : Nat → Prop} {a b : World} (h : Only own a b) (hs : ∀ i, own i → grow own' a i) : Only own' a b := (Only.refl own' a).trans h hs
theorem Only.of_below {own : Nat → Prop} {a b : World} (h : Below a.heap.size a b) : Only own a b := ⟨h.os, h.tape, h.output, h.size, fun k hk _ => h.block k hk⟩
theorem Only.below {own : Nat → Prop} {a b : World} {B : Nat} (h : Only own a b) (ho : ∀ k, own k → B ≤ k) (hB : B ≤ a.heap.size) : Below B a b := ⟨h.os, h.tape, h.output, h.size, fun k hk => h.block k (by omega) (fun e => by have := ho k e; omega)⟩
theorem Only.drewN {own : Nat → Prop} {a b : World} (h : Only own a b) (n : Nat) : Only own a (b.drewN n) := h.trans (Only.of_below (own := own) (bel_drewN (Below.refl _ _) n)) (fun _ e => .inl e)
theorem Only.setCell {own : Nat → Prop} {a b : World} (h : Only own a b) {p : Addr} (hp : grow own a p.block) (u : Value) : Only own a (b.setCell p u) :=
  ⟨h.os, h.tape, h.output, by simpa [World.setCell] using h.size, fun k hk hn => by
    rw [Below.heap_setCell b p u k (fun e => by
      subst e
      rcases hp with q | q
      · exact hn q
      · omega)]
    exact h.block k hk hn⟩
theorem Only.grown {own : Nat → Prop} {a b c : World} {row : Option Nat} (h : Only own a b) (hg : b.grownBy c row) (hr : ∀ k, row = some k → grow own a k) : Only own a c :=
  ⟨hg.os.trans h.os, hg.tape.trans h.tape, hg.output.trans h.output, Nat.le_trans h.size hg.size, fun k hk hn => (hg.block k (Nat.lt_of_lt_of_le hk h.size) (fun e => by
    rcases hr k e.symm with q | q
    · exact hn q
    · omega)).trans (h.block k hk hn)⟩
theorem Only.alloc {own : Nat → Prop} {a b : World} (h : Only own a b) (o : Obj) : Only own a (b.alloc o) := h.grown (World.grownBy_alloc b o none) (fun k hk => by cases hk)
theorem Only.setRow {own : Nat → Prop} {a b : World} (h : Only own a b) {g : Nat} (hp : grow own a g) (cs : Array Value) : Only own a (b.setRow g cs) :=
  ⟨h.os, h.tape, h.output, by simpa [World.setRow] using h.size, fun k hk hn => by
    rw [setRow_other b g k cs (fun e => by
      subst e
      rcases hp with q | q
      · exact hn q
      · omega)]
    exact h.block k hk hn⟩
theorem row_block {w w' : World} {B e s n : Nat} {v : Value} {xs : List Value} (h : w.ownsRow B e s v n xs) (hb : ∀ k, v.ownBlock = some k → w'.heap[k]? = w.heap[k]?) : w'.ownsRow B e s v n xs := by
  refine ⟨h.1, ?_⟩
  rcases h.2 with hn | ⟨g, cap, cur, rfl, hB, hgg, rest⟩
  · exact .inl hn
  · exact .inr ⟨g, cap, cur, rfl, hB, by rw [hb g rfl]; exact hgg, rest⟩
theorem row_heap {w : World} {B e s n : Nat} {v : Value} {xs : List Value} (h : w.ownsRow B e s v n xs) {k : Nat} (hk : v.ownBlock = some k) : ∃ cur, w.heap[k]? = some (.cells cur e (0, 0)) := by
  rcases h.2 with ⟨rfl, _⟩ | ⟨g, cap, cur, rfl, hB, hgg, rest⟩
  · cases hk
  · cases hk; exact ⟨cur, hgg⟩
theorem ne_kind {w : World} {a b : Nat} {c1 c2 : Array Value} {e1 e2 : TypeId} {f1 f2 : Nat × Nat} (h1 : w.heap[a]? = some (.cells c1 e1 f1)) (h2 : w.heap[b]? = some (.cells c2 e2 f2)) (he : e1 ≠ e2) : a ≠ b := by
  rintro rfl
  rw [h1] at h2
  cases h2
  exact he rfl
theorem heap_lt {w : World} {k : Nat} {o : Obj} (e : w.heap[k]? = some o) : k < w.heap.size := (Array.getElem?_eq_some_iff.1 e).1
theorem fz_of {w : World} {g : Nat} {cur : Array Value} {e : TypeId} (h : w.heap[g]? = some (.cells cur e (0, 0))) (i : Nat) : w.frozen? ⟨g, i, none⟩ = false := by
  simp [World.frozen?, h]
theorem heap_set {w : World} {g : Nat} {cur : Array Value} {e : TypeId} {f : Nat × Nat} (h : w.heap[g]? = some (.cells cur e f)) (i : Nat) (u : Value) : (w.setCell ⟨g, i, none⟩ u).heap[g]? = some (.cells (cur.setIfInBounds i u) e f) := by
  simp [World.setCell, Array.getElem?_modify, h]
theorem heap_set_ne (w : World) {g k : Nat} (i : Nat) (u : Value) (h : k ≠ g) : (w.setCell ⟨g, i, none⟩ u).heap[k]? = w.heap[k]? := Below.heap_setCell w ⟨g, i, none⟩ u k h
/-- A list with a head, as it stands in the heap: its age, where its rest lies, and the rest. -/
structure RV where
  age : Nat
  ao : Option Addr
  n : Nat
  c : Nat
  l : List E
def encR (r : RV) : List Value := [.int .i64 (r.age : Int), .slice r.ao r.n r.c]
theorem encR_len (r : RV) : (encR r).length = 2 := rfl
theorem encR_one (r : RV) : ∀ u ∈ encR r, u.oneCell' = true := by
  intro u hu
  simp only [encR, List.mem_cons, List.not_mem_nil, or_false] at hu
  rcases hu with rfl | rfl <;> rfl
def rowC (R : List RV) : List Value := R.flatMap encR
theorem rowC_nil : rowC [] = [] := rfl
theorem rowC_cons (r : RV) (R : List RV) : rowC (r :: R) = encR r ++ rowC R := by simp [rowC]
theorem rowC_append (A B : List RV) : rowC (A ++ B) = rowC A ++ rowC B := by simp [rowC]
theorem rowC_len : ∀ R : List RV, (rowC R).length = R.length * 2
  | [] => rfl
  | r :: R => by rw [rowC_cons, List.length_append, rowC_len R, encR_len, List.length_cons]; omega
theorem rowC_one (R : List RV) : ∀ u ∈ rowC R, u.oneCell' = true := by
  intro u hu
  simp only [rowC, List.mem_flatMap] at hu
  obtain ⟨x, _, hx⟩ := hu
  exact encR_one x u hx
theorem rowC_at [Inhabited RV] : ∀ (R : List RV) (i c : Nat), i < R.length → c < 2 → (rowC R)[i * 2 + c]? = (encR R[i]!)[c]?
  | [], i, c, h, _ => by simp at h
  | r :: R, 0, c, _, hc => by
    rw [rowC_cons, Nat.zero_mul, Nat.zero_add, List.getElem?_append_left (by rw [encR_len]; exact hc)]; rfl
  | r :: R, i + 1, c, h, hc => by
    rw [rowC_cons, List.getElem?_append_right (by rw [encR_len]; omega), encR_len, show (i + 1) * 2 + c - 2 = i * 2 + c by omega, rowC_at R i c (by simpa using h) hc]
    simp
theorem info49 : (Try.prog.info? 49).map (fun i => (i.zero, i.size, i.bytes)) = some (some (.agg #[.int .i64 0, .slice none 0 0]), 2, 32) := by kernel_rfl
/-- Of two rows the one that is looked at first. -/
def cmpR (a b : RV) : Int := cmpP (a.age, a.l) (b.age, b.l)
theorem cmpR_ord : Ord3 cmpR := ⟨fun _ _ => cmpP_ord.anti _ _, fun _ _ _ => cmpP_ord.trans _ _ _⟩
def passR (r : RV) : RV := ⟨r.age, if r.c = 1 then r.ao else Option.map (fun x => x.add (1 * 4)) r.ao, r.n - 1, r.c - 1, r.l.tail⟩
/-- A row that lies in w. -/
def RIn (w : World) (r : RV) : Prop := EntsV w r.ao r.n r.l ∧ r.n ≤ r.c ∧ r.c ≤ 9223372036854775807 ∧ r.age ≤ 9223372036854775807
theorem RIn.below {w w' : World} {B : Nat} {r : RV} (h : RIn w r) (hb : Below B w w') (hB : w.heap.size ≤ B) : RIn w' r := ⟨h.1.below hb hB, h.2⟩
theorem RIn.pass {w : World} {r : RV} (h : RIn w r) (h0 : r.l ≠ []) : RIn w (passR r) := by
  obtain ⟨h1, h2, h3, h4⟩ := h
  have hn : 1 ≤ r.n := by rw [← h1.1]; cases hl : r.l with | nil => exact absurd hl h0 | cons e t => simp
  have := h1.from 1 hn h2
  rw [List.drop_one] at this
  exact ⟨this, by show r.n - 1 ≤ r.c - 1; omega, by show r.c - 1 ≤ _; omega, h4⟩
def headsC (v : Value) : Array Value := #[v, .func (.func 26) #[] #[]]
structure HIn (own : Nat → Prop) (w : World) (g : Nat) (R : List RV) (v : Value) : Prop where
  og : own g
  cells : w.heap[g]? = some (.cells (headsC v) 52 (0, 0))
  row : w.ownsRow 0 49 2 v R.length (rowC R)
  rown : ∀ k, v.ownBlock = some k → own k
def HAt (own : Nat → Prop) (w : World) (g : Nat) (R : List RV) : Prop := ∃ v, HIn own w g R v
section
variable {own : Nat → Prop} {w : World} {g : Nat} {R : List RV} {v : Value}
theorem HIn.keep (h : HIn own w g R v) {w' : World} (hb : ∀ k, k < w.heap.size → own k → w'.heap[k]? = w.heap[k]?) : HIn own w' g R v :=
  ⟨h.og, by rw [hb g (heap_lt h.cells) h.og]; exact h.cells, row_block h.row (fun k hk => hb k (h.row.lt k hk).2 (h.rown k hk)), h.rown⟩
theorem HAt.keep (h : HAt own w g R) {w' : World} (hb : ∀ k, k < w.heap.size → own k → w'.heap[k]? = w.heap[k]?) : HAt own w' g R := by
  obtain ⟨v, h2⟩ := h
  exact ⟨v, h2.keep hb⟩
theorem HAt.grown (h : HAt own w g R) {w' : World} (hb : Below w.heap.size w w') : HAt own w' g R := h.keep (fun k hk _ => hb.block k hk)
theorem HAt.mono (h : HAt own w g R) {own' : Nat → Prop} (hs : ∀ k, k < w.heap.size → own k → own' k) : HAt own' w g R := by
  obtain ⟨v, h2⟩ := h
  exact ⟨v, ⟨hs g (heap_lt h2.cells) h2.og, h2.cells, h2.row, fun k hk => hs k (h2.row.lt k hk).2 (h2.rown k hk)⟩⟩
theorem HAt.lt (h : HAt own w g R) : g < w.heap.size := by
  obtain ⟨v, h2⟩ := h
  exact heap_lt h2.cells
def here (own : Nat → Prop) (w : World) (k : Nat) : Prop := own k ∧ k < w.heap.size
theorem HAt.now (h : HAt own w g R) : HAt (here own w) w g R := h.mono (fun _ hk e => ⟨e, hk⟩)
theorem HIn.c0 (h : HIn own w g R v) : w.cell? ⟨g, 0, none⟩ = some v := by rw [cell_of_row _ _ _ _ _ _ h.cells]; rfl
theorem HIn.c1 (h : HIn own w g R v) : w.cell? ⟨g, 1, none⟩ = some (.func (.func 26) #[] #[]) := by rw [cell_of_row _ _ _ _ _ _ h.cells]; rfl
theorem HIn.fz (h : HIn own w g R v) (i : Nat) : w.frozen? ⟨g, i, none⟩ = false := fz_of h.cells i
/-- The row, where there is one. -/
theorem HIn.slice [Inhabited RV] (h : HIn own w g R v) (hn : 0 < R.length) : ∃ b c cur, v = .slice (some ⟨b, 0, none⟩) R.length c ∧ own b ∧ b ≠ g ∧ w.heap[b]? = some (.cells cur 49 (0, 0)) ∧ R.length ≤ c ∧ c ≤ 9223372036854775807 ∧ R.length * 2 ≤ cur.size ∧
    ∀ i, i < R.length → w.cell? ⟨b, i * 2, none⟩ = some (.int .i64 (R[i]!.age : Int)) ∧ w.cell? ⟨b, i * 2 + 1, none⟩ = some (.slice R[i]!.ao R[i]!.n R[i]!.c) := by
  have hr := h.row
  rcases hr.2 with ⟨rfl, h0⟩ | ⟨b, cap, cur, rfl, hB, hgg, hn2, hm, hs, ht⟩
  · omega
  · refine ⟨b, cap, cur, rfl, h.rown b rfl, ne_kind hgg h.cells (by decide), hgg, hn2, by unfold maxLen at hm; omega, ?_, fun i hi => ⟨?_, ?_⟩⟩
    · have := congrArg List.length ht
      rw [List.length_take, rowC_len] at this
      have h3 : cur.toList.length = cur.size := rfl
      omega
    · have := hr.cells (g := b) rfl (i * 2 + 0) (.int .i64 (R[i]!.age : Int)) (by rw [rowC_at R i 0 hi (by omega)]; rfl)
      rw [Addr.add_lit] at this
      simpa using this
    · have := hr.cells (g := b) rfl (i * 2 + 1) (.slice R[i]!.ao R[i]!.n R[i]!.c) (by rw [rowC_at R i 1 hi (by omega)]; rfl)
      rw [Addr.add_lit] at this
      simpa using this
end
end Go.Proofs.Yteggjenncmjfmaa
