/-
  A disk in memory: its struct, its map, its files' blocks and bodies, its pieces; what of it stays when blocks turn.
-/
import Derived.Test.YtomeghngjiaofaaDkS
import Derived.Test.YtomeghngjiaofaaDskR
namespace Go.Proofs.Ytomeghngjiaofaa
open Go.RowKit
/-- Nothing that lay there turned but blocks of 'own'. -/
structure Only (own : Nat → Prop) (w w' : World) : Prop where
  os : w'.os = w.os
  tape : w'.tape = w.tape
  output : w'.output = w.output
  size : w.heap.size ≤ w'.heap.size
  block : ∀ k, k < w.heap.size → ¬ own k → w'.heap[k]? = w.heap[k]?
def grow (own : Nat → Prop) (w : World) (k : Nat) : Prop := own k ∨ w.heap.size ≤ k
theorem Only.refl (own : Nat → Prop) (w : World) : Only own w w := ⟨rfl, rfl, rfl, Nat.le_refl _, fun _ _ _ => rfl⟩
theorem Only.trans {own own' : Nat → Prop} {a b c : World} (h : Only own a b) (k : Only own' b c) (hs : ∀ i, own' i → grow own a i) : Only own a c :=
  ⟨k.os.trans h.os, k.tape.trans h.tape, k.output.trans h.output, Nat.le_trans h.size k.size, fun i hi hn => (k.block i (Nat.lt_of_lt_of_le hi h.size) (fun e => by
    rcases hs i e with q | q
    · exact hn q
    · omega)).trans (h.block i hi hn)⟩
theorem Only.mono {own own' : Nat → Prop} {a b : World} (h : Only own a b) (hs : ∀ i, own i → grow own' a i) : Only own' a b := (Only.refl own' a).trans h hs
theorem Only.of_below {own : Nat → Prop} {a b : World} (h : Below a.heap.size a b) : Only own a b := ⟨h.os, h.tape, h.output, h.size, fun k hk _ => h.block k hk⟩
theorem Only.below {own : Nat → Prop} {a b : World} {B : Nat} (h : Only own a b) (ho : ∀ k, own k → B ≤ k) (hB : B ≤ a.heap.size) : Below B a b := ⟨h.os, h.tape, h.output, h.size, fun k hk => h.block k (by omega) (fun e => by have := ho k e; omega)⟩
theorem Only.drewN {own : Nat → Prop} {a b : World} (h : Only own a b) (n : Nat) : Only own a (b.drewN n) := h.trans (Only.of_below (own := own) (bel_drewN (Below.refl _ _) n)) (fun _ e => .inl e)
theorem Only.setCell {own : Nat → Prop} {a b : World} (h : Only own a b) {p : Addr} (hp : grow own a p.block) (u : Value) : Only own a (b.setCell p u) :=
  ⟨h.os, h.tape, h.output, by simpa [World.setCell] using h.size, fun k hk hn => by
    rw [Below.heap_setCell b p u k (fun e => by
      subst e
      rcases hp with q | q
      · exact hn q
      · omega)]
    exact h.block k hk hn⟩
theorem Only.grown {own : Nat → Prop} {a b c : World} {row : Option Nat} (h : Only own a b) (hg : b.grownBy c row) (hr : ∀ k, row = some k → grow own a k) : Only own a c :=
  ⟨hg.os.trans h.os, hg.tape.trans h.tape, hg.output.trans h.output, Nat.le_trans h.size hg.size, fun k hk hn => (hg.block k (Nat.lt_of_lt_of_le hk h.size) (fun e => by
    rcases hr k e.symm with q | q
    · exact hn q
    · omega)).trans (h.block k hk hn)⟩
theorem Only.alloc {own : Nat → Prop} {a b : World} (h : Only own a b) (o : Obj) : Only own a (b.alloc o) := h.grown (World.grownBy_alloc b o none) (fun k hk => by cases hk)
theorem FilesAt.block {w w' : World} {b n : Nat} {f : ByteArray → Option Nat} (h : FilesAt w b n f) (hb : w'.heap[b]? = w.heap[b]?) : FilesAt w' b n f := by
  obtain ⟨D, ⟨es, cl, h1, h2, h3, h4⟩, h5⟩ := h
  exact ⟨D, ⟨es, cl, by rw [hb]; exact h1, h2, h3, h4⟩, h5⟩
theorem FilesAt.heap {w : World} {b n : Nat} {f : ByteArray → Option Nat} (h : FilesAt w b n f) : ∃ es cl, w.heap[b]? = some (.map es cl) := by
  obtain ⟨D, ⟨es, cl, h1, h2, h3, h4⟩, h5⟩ := h
  exact ⟨es, cl, h1⟩
theorem FilesAt.same {w : World} {b n : Nat} {f f' : ByteArray → Option Nat} (h : FilesAt w b n f) (e : ∀ s, f' s = f s) : FilesAt w b n f' := by rw [funext e]; exact h
theorem row_block {w w' : World} {B e s n : Nat} {v : Value} {xs : List Value} (h : w.ownsRow B e s v n xs) (hb : ∀ k, v.ownBlock = some k → w'.heap[k]? = w.heap[k]?) : w'.ownsRow B e s v n xs := by
  refine ⟨h.1, ?_⟩
  rcases h.2 with hn | ⟨g, cap, cur, rfl, hB, hgg, rest⟩
  · exact .inl hn
  · exact .inr ⟨g, cap, cur, rfl, hB, by rw [hb g rfl]; exact hgg, rest⟩
theorem row_heap {w : World} {B e s n : Nat} {v : Value} {xs : List Value} (h : w.ownsRow B e s v n xs) {k : Nat} (hk : v.ownBlock = some k) : ∃ cur, w.heap[k]? = some (.cells cur e (0, 0)) := by
  rcases h.2 with ⟨rfl, _⟩ | ⟨g, cap, cur, rfl, hB, hgg, rest⟩
  · cases hk
  · cases hk; exact ⟨cur, hgg⟩
theorem ne_kind {w : World} {a b : Nat} {c1 c2 : Array Value} {e1 e2 : TypeId} {f1 f2 : Nat × Nat} (h1 : w.heap[a]? = some (.cells c1 e1 f1)) (h2 : w.heap[b]? = some (.cells c2 e2 f2)) (he : e1 ≠ e2) : a ≠ b := by
  rintro rfl
  rw [h1] at h2
  cases h2
  exact he rfl
theorem ne_map {w : World} {a b : Nat} {c1 : Array Value} {e1 : TypeId} {f1 : Nat × Nat} {es : Array MapEntry} {cl : Nat} (h1 : w.heap[a]? = some (.cells c1 e1 f1)) (h2 : w.heap[b]? = some (.map es cl)) : a ≠ b := by
  rintro rfl
  rw [h1] at h2
  cases h2
def pcC (blk : Nat → Nat) (l : List (Nat × Nat)) : List Value := l.flatMap fun p => [.pointer (some ⟨blk p.1, 0, none⟩), .int .i64 (p.2 : Int)]
theorem pcC_cons (blk : Nat → Nat) (p : Nat × Nat) (l : List (Nat × Nat)) : pcC blk (p :: l) = .pointer (some ⟨blk p.1, 0, none⟩) :: .int .i64 (p.2 : Int) :: pcC blk l := rfl
theorem pcC_append (blk : Nat → Nat) (l m : List (Nat × Nat)) : pcC blk (l ++ m) = pcC blk l ++ pcC blk m := List.flatMap_append ..
theorem pcC_len (blk : Nat → Nat) (l : List (Nat × Nat)) : (pcC blk l).length = l.length * 2 := by
  induction l with
  | nil => rfl
  | cons p l ih => rw [pcC_cons, List.length_cons, List.length_cons, List.length_cons, ih]; omega
def flC (s : ByteArray) (v : Value) : Array Value := #[.string s, v]
structure DiskIn (own : Nat → Prop) (w : World) (g : Nat) (A : Dk) (m n : Nat) (uo : Option Addr) (uc : Nat) (blk : Nat → Nat) (bv : Nat → Value) : Prop where
  og : own g
  om : own m
  cells : w.heap[g]? = some (.cells (dskC (A.cap : Int) (usedL A.L : Int) m uo A.pcs.length uc A.down A.left A.keep) 69 (0, 0))
  files : FilesAt w m n (fun s => (findL A.L s).map fun x => blk x.id)
  pcs : w.ownsRow 0 79 2 (.slice uo A.pcs.length uc) A.pcs.length (pcC blk A.pcs)
  pown : ∀ k, (Value.slice uo A.pcs.length uc).ownBlock = some k → own k
  file : ∀ x ∈ A.L, own (blk x.id) ∧ w.heap[blk x.id]? = some (.cells (flC x.nm (bv x.id)) 77 (0, 0)) ∧ w.ownsRow 0 5 1 (bv x.id) x.body.length (cellsOf x.body) ∧ ∀ k, (bv x.id).ownBlock = some k → own k
  apart : ∀ x ∈ A.L, ∀ y ∈ A.L, ∀ k, (bv x.id).ownBlock = some k → (bv y.id).ownBlock = some k → x.id = y.id
def DiskAt (own : Nat → Prop) (w : World) (g : Nat) (A : Dk) (N : Nat) : Prop := A.wf ∧ A.pcs.length ≤ N ∧ ∃ m n uo uc blk bv, n ≤ N ∧ DiskIn own w g A m n uo uc blk bv
section
variable {own : Nat → Prop} {w : World} {g : Nat} {A : Dk} {m n : Nat} {uo : Option Addr} {uc : Nat} {blk : Nat → Nat} {bv : Nat → Value}
theorem heap_lt {w : World} {k : Nat} {o : Obj} (e : w.heap[k]? = some o) : k < w.heap.size := (Array.getElem?_eq_some_iff.1 e).1
theorem DiskIn.keep (h : DiskIn own w g A m n uo uc blk bv) {w' : World} (hb : ∀ k, k < w.heap.size → own k → w'.heap[k]? = w.heap[k]?) : DiskIn own w' g A m n uo uc blk bv :=
  ⟨h.og, h.om, by rw [hb g (heap_lt h.cells) h.og]; exact h.cells, h.files.block (hb m h.files.lt h.om), row_block h.pcs (fun k hk => hb k (h.pcs.lt k hk).2 (h.pown k hk)), h.pown,
    fun x hx => by
      obtain ⟨a, b, c, d⟩ := h.file x hx
      exact ⟨a, by rw [hb _ (heap_lt b) a]; exact b, row_block c (fun k hk => hb k (c.lt k hk).2 (d k hk)), d⟩, h.apart⟩
theorem DiskIn.grown (h : DiskIn own w g A m n uo uc blk bv) {w' : World} (hb : Below w.heap.size w w') : DiskIn own w' g A m n uo uc blk bv := h.keep (fun k hk _ => hb.block k hk)
theorem DiskIn.mono (h : DiskIn own w g A m n uo uc blk bv) {own' : Nat → Prop} (hs : ∀ k, k < w.heap.size → own k → own' k) : DiskIn own' w g A m n uo uc blk bv := by
  have lt : ∀ {k o}, w.heap[k]? = some o → k < w.heap.size := fun e => (Array.getElem?_eq_some_iff.1 e).1
  refine ⟨hs g (lt h.cells) h.og, hs m h.files.lt h.om, h.cells, h.files, h.pcs, fun k hk => ?_, fun x hx => ?_, h.apart⟩
  · exact hs k (h.pcs.lt k hk).2 (h.pown k hk)
  · obtain ⟨a, b, c, d⟩ := h.file x hx
    exact ⟨hs _ (lt b) a, b, c, fun k hk => hs k (c.lt k hk).2 (d k hk)⟩
theorem DiskIn.gm (h : DiskIn own w g A m n uo uc blk bv) : g ≠ m := by
  obtain ⟨es, cl, e⟩ := h.files.heap
  exact ne_map h.cells e
theorem DiskIn.pg (h : DiskIn own w g A m n uo uc blk bv) {k : Nat} (hk : (Value.slice uo A.pcs.length uc).ownBlock = some k) : k ≠ g ∧ k ≠ m ∧ (∀ x ∈ A.L, k ≠ blk x.id) ∧ (∀ x ∈ A.L, (bv x.id).ownBlock ≠ some k) := by
  obtain ⟨cur, e⟩ := row_heap h.pcs hk
  obtain ⟨es, cl, e2⟩ := h.files.heap
  refine ⟨ne_kind e h.cells (by decide), ne_map e e2, fun x hx => ne_kind e (h.file x hx).2.1 (by decide), fun x hx hb => ?_⟩
  obtain ⟨cur2, e3⟩ := row_heap (h.file x hx).2.2.1 hb
  exact ne_kind e e3 (by decide) rfl
theorem DiskIn.fg (h : DiskIn own w g A m n uo uc blk bv) {x : Fl} (hx : x ∈ A.L) : blk x.id ≠ g ∧ blk x.id ≠ m ∧ (∀ y ∈ A.L, (bv y.id).ownBlock ≠ some (blk x.id)) ∧ (∀ y ∈ A.L, blk y.id = blk x.id → y.nm = x.nm) := by
  obtain ⟨a, b, c, d⟩ := h.file x hx
  obtain ⟨es, cl, e2⟩ := h.files.heap
  refine ⟨ne_kind b h.cells (by decide), ne_map b e2, fun y hy hb => ?_, fun y hy e => ?_⟩
  · obtain ⟨cur2, e3⟩ := row_heap (h.file y hy).2.2.1 hb
    exact ne_kind b e3 (by decide) rfl
  · have := (h.file y hy).2.1
    rw [e, b] at this
    simp only [Option.some.injEq, Obj.cells.injEq, flC] at this
    have h5 := congrArg (fun z : Array Value => z[0]!) this.1
    simp at h5
    exact h5.symm
theorem DiskIn.bg (h : DiskIn own w g A m n uo uc blk bv) {x : Fl} (hx : x ∈ A.L) {k : Nat} (hk : (bv x.id).ownBlock = some k) : k ≠ g ∧ k ≠ m ∧ (∀ y ∈ A.L, k ≠ blk y.id) := by
  obtain ⟨a, b, c, d⟩ := h.file x hx
  obtain ⟨cur, e⟩ := row_heap c hk
  obtain ⟨es, cl, e2⟩ := h.files.heap
  exact ⟨ne_kind e h.cells (by decide), ne_map e e2, fun y hy q => (h.fg hy).2.2.1 x hx (by rw [hk, q])⟩
theorem DiskIn.lt (h : DiskIn own w g A m n uo uc blk bv) : g < w.heap.size := (Array.getElem?_eq_some_iff.1 h.cells).1
theorem DiskIn.c0 (h : DiskIn own w g A m n uo uc blk bv) : w.cell? ⟨g, 0, none⟩ = some (.int .i64 A.cap) := by rw [cell_of_row _ _ _ _ _ _ h.cells]; rfl
theorem DiskIn.c1 (h : DiskIn own w g A m n uo uc blk bv) : w.cell? ⟨g, 1, none⟩ = some (.int .i64 (usedL A.L)) := by rw [cell_of_row _ _ _ _ _ _ h.cells]; rfl
theorem DiskIn.c2 (h : DiskIn own w g A m n uo uc blk bv) : w.cell? ⟨g, 2, none⟩ = some (.map (some m)) := by rw [cell_of_row _ _ _ _ _ _ h.cells]; rfl
theorem DiskIn.c3 (h : DiskIn own w g A m n uo uc blk bv) : w.cell? ⟨g, 3, none⟩ = some (.slice uo A.pcs.length uc) := by rw [cell_of_row _ _ _ _ _ _ h.cells]; rfl
theorem DiskIn.c4 (h : DiskIn own w g A m n uo uc blk bv) : w.cell? ⟨g, 4, none⟩ = some (.bool A.down) := by rw [cell_of_row _ _ _ _ _ _ h.cells]; rfl
theorem DiskIn.c5 (h : DiskIn own w g A m n uo uc blk bv) : w.cell? ⟨g, 5, none⟩ = some (.int .i64 A.left) := by rw [cell_of_row _ _ _ _ _ _ h.cells]; rfl
theorem DiskIn.c6 (h : DiskIn own w g A m n uo uc blk bv) : w.cell? ⟨g, 6, none⟩ = some (.int .i64 A.keep) := by rw [cell_of_row _ _ _ _ _ _ h.cells]; rfl
theorem fz_of {w : World} {g : Nat} {cur : Array Value} {e : TypeId} (h : w.heap[g]? = some (.cells cur e (0, 0))) (i : Nat) : w.frozen? ⟨g, i, none⟩ = false := by
  simp [World.frozen?, h]
theorem heap_set {w : World} {g : Nat} {cur : Array Value} {e : TypeId} {f : Nat × Nat} (h : w.heap[g]? = some (.cells cur e f)) (i : Nat) (u : Value) : (w.setCell ⟨g, i, none⟩ u).heap[g]? = some (.cells (cur.setIfInBounds i u) e f) := by
  simp [World.setCell, Array.getElem?_modify, h]
theorem heap_set_ne (w : World) {g k : Nat} (i : Nat) (u : Value) (h : k ≠ g) : (w.setCell ⟨g, i, none⟩ u).heap[k]? = w.heap[k]? := Below.heap_setCell w ⟨g, i, none⟩ u k h
/-- The struct's other cells turn: the armed call, what it keeps, up or down. -/
theorem DiskIn.turn (h : DiskIn own w g A m n uo uc blk bv) {w' : World} {A' : Dk} (hL : A'.L = A.L) (hP : A'.pcs = A.pcs) (hb : ∀ k, own k → k ≠ g → w'.heap[k]? = w.heap[k]?)
    (hg : w'.heap[g]? = some (.cells (dskC (A'.cap : Int) (usedL A.L : Int) m uo A.pcs.length uc A'.down A'.left A'.keep) 69 (0, 0))) : DiskIn own w' g A' m n uo uc blk bv := by
  refine ⟨h.og, h.om, by rw [hL, hP]; exact hg, by rw [hL]; exact h.files.block (hb m h.om (fun e => h.gm e.symm)), ?_, ?_, ?_, ?_⟩
  · rw [hP]; exact row_block h.pcs (fun k hk => hb k (h.pown k hk) (h.pg hk).1)
  · rw [hP]; exact h.pown
  · rw [hL]
    intro x hx
    obtain ⟨a, b, c, d⟩ := h.file x hx
    exact ⟨a, by rw [hb _ a (h.fg hx).1]; exact b, row_block c (fun k hk => hb k (d k hk) (h.bg hx hk).1), d⟩
  · rw [hL]; exact h.apart
theorem DiskAt.mono {N N' : Nat} (h : DiskAt own w g A N) {own' : Nat → Prop} (hs : ∀ k, k < w.heap.size → own k → own' k) (hN : N ≤ N') : DiskAt own' w g A N' := by
  obtain ⟨h1, h2, m, n, uo, uc, blk, bv, h3, h4⟩ := h
  exact ⟨h1, Nat.le_trans h2 hN, m, n, uo, uc, blk, bv, Nat.le_trans h3 hN, h4.mono hs⟩
theorem DiskAt.keep {N : Nat} (h : DiskAt own w g A N) {w' : World} (hb : ∀ k, k < w.heap.size → own k → w'.heap[k]? = w.heap[k]?) : DiskAt own w' g A N := by
  obtain ⟨h1, h2, m, n, uo, uc, blk, bv, h3, h4⟩ := h
  exact ⟨h1, h2, m, n, uo, uc, blk, bv, h3, h4.keep hb⟩
theorem DiskAt.grown {N : Nat} (h : DiskAt own w g A N) {w' : World} (hb : Below w.heap.size w w') : DiskAt own w' g A N := h.keep (fun k hk _ => hb.block k hk)
theorem DiskAt.lt {N : Nat} (h : DiskAt own w g A N) : g < w.heap.size := by
  obtain ⟨h1, h2, m, n, uo, uc, blk, bv, h3, h4⟩ := h
  exact h4.lt
/-- The part of 'own' that is there. -/
def here (own : Nat → Prop) (w : World) (k : Nat) : Prop := own k ∧ k < w.heap.size
theorem DiskAt.now {N : Nat} (h : DiskAt own w g A N) : DiskAt (here own w) w g A N := h.mono (fun _ hk e => ⟨e, hk⟩) (Nat.le_refl _)
end
end Go.Proofs.Ytomeghngjiaofaa
