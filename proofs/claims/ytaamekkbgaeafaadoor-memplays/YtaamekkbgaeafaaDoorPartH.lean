/-
  A mem in memory: its struct and its row of entries; what of it stays when blocks turn. place and find of a mem: how many keys are less, and whether there is a write of the key. find, Get, Last, Len, Chain, noWrites, behind, New, Clear of a mem.
-/
import Derived.Test.YtaamekkbgaeafaaDoorPartG
import Derived.Test.YtaamekkbgaeafaaDoorSOf
import Derived.Test.YtaamekkbgaeafaaDoorMmS
import Derived.BigQuiet
import Derived.Test.YtaamekkbgaeafaaDoorSame
namespace Go.Proofs.YtaamekkbgaeafaaDoor
open Go.RowKit
set_option linter.unusedSectionVars false
variable [Inhabited E]
/-- Nothing that lay there turned but blocks of 'own'. -/
structure Only (own : Nat → Prop) (w w' : World) : Prop where
  os : w'.os = w.os
  tape : w'.tape = w.tape
  output : w'.output = w.output
  size : w.heap.size ≤ w'.heap.size
  block : ∀ k, k < w.heap.size → ¬ own k → w'.heap[k]? = w.heap[k]?
def grow (own : Nat → Prop) (w : World) (k : Nat) : Prop := own k ∨ w.heap.size ≤ k
theorem Only.refl (own : Nat → Prop) (w : World) : Only own w w := ⟨rfl, rfl, rfl, Nat.le_refl _, fun _ _ _ => rfl⟩
theorem Only.trans {own own' : Nat → Prop} {a b c : World} (h : Only own a b) (k : Only own' b c) (hs : ∀ i, own' i → grow own a i) : Only own a c :=
  ⟨k.os.trans h.os, k.tape.trans h.tape, k.output.trans h.output, Nat.le_trans h.size k.size, fun i hi hn => (k.block i (Nat.lt_of_lt_of_le hi h.size) (fun e => by
    rcases hs i e with q | q
    · exact hn q
    · omega)).trans (h.block i hi hn)⟩
theorem Only.mono {own own' : Nat → Prop} {a b : World} (h : Only own a b) (hs : ∀ i, own i → grow own' a i) : Only own' a b := (Only.refl own' a).trans h hs
theorem Only.of_below {own : Nat → Prop} {a b : World} (h : Below a.heap.size a b) : Only own a b := ⟨h.os, h.tape, h.output, h.size, fun k hk _ => h.block k hk⟩
theorem Only.below {own : Nat → Prop} {a b : World} {B : Nat} (h : Only own a b) (ho : ∀ k, own k → B ≤ k) (hB : B ≤ a.heap.size) : Below B a b := ⟨h.os, h.tape, h.output, h.size, fun k hk => h.block k (by omega) (fun e => by have := ho k e; omega)⟩
theorem Only.drewN {own : Nat → Prop} {a b : World} (h : Only own a b) (n : Nat) : Only own a (b.drewN n) := h.trans (Only.of_below (own := own) (bel_drewN (Below.refl _ _) n)) (fun _ e => .inl e)
theorem Only.setCell {own : Nat → Prop} {a b : World} (h : Only own a b) {p : Addr} (hp : grow own a p.block) (u : Value) : Only own a (b.setCell p u) :=
  ⟨h.os, h.tape, h.output, by simpa [World.setCell] using h.size, fun k hk hn => by
    rw [Below.heap_setCell b p u k (fun e => by
      subst e
      rcases hp with q | q
      · exact hn q
      · omega)]
    exact h.block k hk hn⟩
theorem Only.grown {own : Nat → Prop} {a b c : World} {row : Option Nat} (h : Only own a b) (hg : b.grownBy c row) (hr : ∀ k, row = some k → grow own a k) : Only own a c :=
  ⟨hg.os.trans h.os, hg.tape.trans h.tape, hg.output.trans h.output, Nat.le_trans h.size hg.size, fun k hk hn => (hg.block k (Nat.lt_of_lt_of_le hk h.size) (fun e => by
    rcases hr k e.symm with q | q
    · exact hn q
    · omega)).trans (h.block k hk hn)⟩
theorem Only.alloc {own : Nat → Prop} {a b : World} (h : Only own a b) (o : Obj) : Only own a (b.alloc o) := h.grown (World.grownBy_alloc b o none) (fun k hk => by cases hk)
theorem Only.setRow {own : Nat → Prop} {a b : World} (h : Only own a b) {g : Nat} (hp : grow own a g) (cs : Array Value) : Only own a (b.setRow g cs) :=
  ⟨h.os, h.tape, h.output, by simpa [World.setRow] using h.size, fun k hk hn => by
    rw [setRow_other b g k cs (fun e => by
      subst e
      rcases hp with q | q
      · exact hn q
      · omega)]
    exact h.block k hk hn⟩
theorem row_block {w w' : World} {B e s n : Nat} {v : Value} {xs : List Value} (h : w.ownsRow B e s v n xs) (hb : ∀ k, v.ownBlock = some k → w'.heap[k]? = w.heap[k]?) : w'.ownsRow B e s v n xs := by
  refine ⟨h.1, ?_⟩
  rcases h.2 with hn | ⟨g, cap, cur, rfl, hB, hgg, rest⟩
  · exact .inl hn
  · exact .inr ⟨g, cap, cur, rfl, hB, by rw [hb g rfl]; exact hgg, rest⟩
theorem row_heap {w : World} {B e s n : Nat} {v : Value} {xs : List Value} (h : w.ownsRow B e s v n xs) {k : Nat} (hk : v.ownBlock = some k) : ∃ cur, w.heap[k]? = some (.cells cur e (0, 0)) := by
  rcases h.2 with ⟨rfl, _⟩ | ⟨g, cap, cur, rfl, hB, hgg, rest⟩
  · cases hk
  · cases hk; exact ⟨cur, hgg⟩
theorem ne_kind {w : World} {a b : Nat} {c1 c2 : Array Value} {e1 e2 : TypeId} {f1 f2 : Nat × Nat} (h1 : w.heap[a]? = some (.cells c1 e1 f1)) (h2 : w.heap[b]? = some (.cells c2 e2 f2)) (he : e1 ≠ e2) : a ≠ b := by
  rintro rfl
  rw [h1] at h2
  cases h2
  exact he rfl
theorem heap_lt {w : World} {k : Nat} {o : Obj} (e : w.heap[k]? = some o) : k < w.heap.size := (Array.getElem?_eq_some_iff.1 e).1
theorem fz_of {w : World} {g : Nat} {cur : Array Value} {e : TypeId} (h : w.heap[g]? = some (.cells cur e (0, 0))) (i : Nat) : w.frozen? ⟨g, i, none⟩ = false := by
  simp [World.frozen?, h]
theorem heap_set {w : World} {g : Nat} {cur : Array Value} {e : TypeId} {f : Nat × Nat} (h : w.heap[g]? = some (.cells cur e f)) (i : Nat) (u : Value) : (w.setCell ⟨g, i, none⟩ u).heap[g]? = some (.cells (cur.setIfInBounds i u) e f) := by
  simp [World.setCell, Array.getElem?_modify, h]
theorem heap_set_ne (w : World) {g k : Nat} (i : Nat) (u : Value) (h : k ≠ g) : (w.setCell ⟨g, i, none⟩ u).heap[k]? = w.heap[k]? := Below.heap_setCell w ⟨g, i, none⟩ u k h
/-- A mem's struct: the row, the last number, the chain. -/
def memC (v : Value) (last : Int) (ch : List UInt8) : Array Value := (v :: .int .i64 last :: cellsOf ch).toArray
theorem memC_size (v : Value) (last : Int) (ch : List UInt8) (h : ch.length = 32) : (memC v last ch).size = 34 := by simp [memC, cellsOf_length, h]
/-- A mem by itself: the newest write of each key, the last number, the chain. -/
structure Mm where
  es : List E
  last : Int
  ch : List UInt8
structure Mm.wf (A : Mm) : Prop where
  ks : Ks A.es
  len : A.es.length ≤ 64
  chl : A.ch.length = 32
  seqs : ∀ x ∈ A.es, x.seq ≤ A.last
  right : ∀ x ∈ A.es, rightB x = true
structure MemIn (own : Nat → Prop) (w : World) (g : Nat) (A : Mm) (v : Value) : Prop where
  og : own g
  cells : w.heap[g]? = some (.cells (memC v A.last A.ch) 57 (0, 0))
  row : w.ownsRow 0 29 4 v A.es.length (flatE A.es)
  rown : ∀ k, v.ownBlock = some k → own k
def MemAt (own : Nat → Prop) (w : World) (g : Nat) (A : Mm) : Prop := A.wf ∧ ∃ v, MemIn own w g A v
section
variable {own : Nat → Prop} {w : World} {g : Nat} {A : Mm} {v : Value}
theorem MemIn.keep (h : MemIn own w g A v) {w' : World} (hb : ∀ k, k < w.heap.size → own k → w'.heap[k]? = w.heap[k]?) : MemIn own w' g A v :=
  ⟨h.og, by rw [hb g (heap_lt h.cells) h.og]; exact h.cells, row_block h.row (fun k hk => hb k (h.row.lt k hk).2 (h.rown k hk)), h.rown⟩
theorem MemAt.keep (h : MemAt own w g A) {w' : World} (hb : ∀ k, k < w.heap.size → own k → w'.heap[k]? = w.heap[k]?) : MemAt own w' g A := by
  obtain ⟨h1, v, h2⟩ := h
  exact ⟨h1, v, h2.keep hb⟩
theorem MemAt.grown (h : MemAt own w g A) {w' : World} (hb : Below w.heap.size w w') : MemAt own w' g A := h.keep (fun k hk _ => hb.block k hk)
theorem MemAt.mono (h : MemAt own w g A) {own' : Nat → Prop} (hs : ∀ k, k < w.heap.size → own k → own' k) : MemAt own' w g A := by
  obtain ⟨h1, v, h2⟩ := h
  exact ⟨h1, v, ⟨hs g (heap_lt h2.cells) h2.og, h2.cells, h2.row, fun k hk => hs k (h2.row.lt k hk).2 (h2.rown k hk)⟩⟩
theorem MemAt.lt (h : MemAt own w g A) : g < w.heap.size := by
  obtain ⟨h1, v, h2⟩ := h
  exact heap_lt h2.cells
def here (own : Nat → Prop) (w : World) (k : Nat) : Prop := own k ∧ k < w.heap.size
theorem MemAt.now (h : MemAt own w g A) : MemAt (here own w) w g A := h.mono (fun _ hk e => ⟨e, hk⟩)
theorem MemIn.c0 (h : MemIn own w g A v) : w.cell? ⟨g, 0, none⟩ = some v := by rw [cell_of_row _ _ _ _ _ _ h.cells]; rfl
theorem MemIn.c1 (h : MemIn own w g A v) : w.cell? ⟨g, 1, none⟩ = some (.int .i64 A.last) := by rw [cell_of_row _ _ _ _ _ _ h.cells]; rfl
theorem MemIn.fz (h : MemIn own w g A v) (i : Nat) : w.frozen? ⟨g, i, none⟩ = false := fz_of h.cells i
theorem MemIn.slice (h : MemIn own w g A v) : ∃ ao c, v = .slice ao A.es.length c ∧ EntsV w ao A.es.length A.es ∧ A.es.length ≤ c ∧ c ≤ 9223372036854775807 ∧ (ao = none → c = 0) ∧ (∀ x, ao = some x → ∃ b, x = ⟨b, 0, none⟩ ∧ own b ∧ b < w.heap.size ∧ b ≠ g) := by
  have hr := h.row
  rcases hr.2 with ⟨rfl, h0⟩ | ⟨b, cap, cur, rfl, hB, hgg, hn, hm, rest⟩
  · have he : A.es = [] := List.eq_nil_of_length_eq_zero h0
    rw [he]
    exact ⟨none, 0, rfl, ⟨rfl, fun x => absurd x (Nat.lt_irrefl _)⟩, Nat.le_refl _, by omega, fun _ => rfl, fun x hx => by cases hx⟩
  · obtain ⟨ao, c, e1, e2⟩ := own_entsV hr rfl
    cases e1
    refine ⟨_, _, rfl, e2, hn, by unfold maxLen at hm; omega, (fun x => by cases x), fun x hx => ?_⟩
    cases hx
    exact ⟨b, rfl, h.rown b rfl, heap_lt hgg, ne_kind hgg h.cells (by decide)⟩
end
end Go.Proofs.YtaamekkbgaeafaaDoor
namespace Go.Proofs.YtaamekkbgaeafaaDoor
open Go.RowKit
set_option linter.unusedSectionVars false
variable [Inhabited E]
set_option maxHeartbeats 2000000 in
set_option maxRecDepth 100000 in
theorem closure52 (ba bx g b c n : Nat) (es : List E) (key : ByteArray) (i : Nat) (W : World) (hi : i < n) (hl : es.length = n)
    (ha : W.cell? ⟨ba, 0, none⟩ = some (.pointer (some ⟨g, 0, none⟩))) (hx : W.cell? ⟨bx, 0, none⟩ = some (.string key))
    (hg : W.cell? ⟨g, 0, none⟩ = some (.slice (some ⟨b, 0, none⟩) n c)) (hE : Ents W b 0 es) :
    Calls Tryd.prog 52 (#[.int .i64 i] ++ #[.pointer (some ⟨ba, 0, none⟩), .pointer (some ⟨bx, 0, none⟩)]) W fun e w' => e = .returned (.bool (!decide (cmpS es[i]!.key key < 0))) ∧ ∃ q, w' = W.drewN q := by
  have hk : W.cell? ⟨b, i * 4, none⟩ = some (.string es[i]!.key) := by
    have := ents_cell hE i 0 (by omega) (by omega)
    simpa [encE] using this
  clear hE
  generalize es[i]!.key = k1 at hk ⊢
  have hiz : (i : Int) < (n : Int) := by omega
  have mixed : Tryd.prog.follows .mixedOrders = true := by kernel_rfl
  rw [← less_cmpS]
  go_enter Tryd.func52, Tryd.ntmps52
  go_wp2
  go_region_o
  all_goals go_wp2
  all_goals go_ret
  all_goals exact ⟨rfl, 1, rfl⟩
theorem enters52 : ∀ args w, (callFunc 52 args).run Tryd.prog w = .ok (.enter 52 args) w := enters_of Tryd.func52 (by kernel_rfl) rfl
theorem enters51 : ∀ args w, (callFunc 51 args).run Tryd.prog w = .ok (.enter 51 args) w := enters_of Tryd.func51 (by kernel_rfl) rfl
theorem below_count (key : ByteArray) (es : List E) : (List.range es.length).countP (fun i => !(!decide (cmpS es[i]!.key key < 0))) = belowN key es := by
  have h := Lib.countP_range es.toArray (fun e => decide (cmpS e.key key < 0))
  simp only [List.size_toArray] at h
  rw [belowN, ← h]
  refine congrFun (congrArg List.countP (funext fun i => ?_)) _
  rw [Bool.not_not, ← get!_toList]
theorem ks_mono {key : ByteArray} {es : List E} (h : Ks es) (a b : Nat) (hab : a ≤ b) (hb : b < es.length) (hp : (!decide (cmpS es[a]!.key key < 0)) = true) : (!decide (cmpS es[b]!.key key < 0)) = true := by
  have h1 := ks_place key h a (by omega)
  have h2 := ks_place key h b hb
  simp only [Bool.not_eq_true', decide_eq_false_iff_not] at hp ⊢
  rw [h1] at hp
  rw [h2]
  omega
set_option maxHeartbeats 2000000 in
set_option maxRecDepth 100000 in
theorem place_any (own : Nat → Prop) (g : Nat) (A : Mm) (key : ByteArray) (w : World) (h : MemAt own w g A) :
    Calls Tryd.prog 38 #[.pointer (some ⟨g, 0, none⟩), .string key] w fun e w' => e = .returned (.int .i64 (belowN key A.es : Nat)) ∧ Below w.heap.size w w' := by
  obtain ⟨wf, v, hI⟩ := h
  obtain ⟨ao, c, rfl, hEV, hnc, hc, hnone, hsome⟩ := hI.slice
  obtain ⟨W0, hW0⟩ : ∃ W0, W0 = (w.alloc (.cells #[.pointer (some ⟨g, 0, none⟩)] 24)).alloc (.cells #[.string key] 9) := ⟨_, rfl⟩
  have hsize : W0.heap.size = w.heap.size + 1 + 1 := by rw [hW0]; simp
  have hB0 : Below w.heap.size w W0 := by rw [hW0]; exact ((Below.refl _ w).alloc (Nat.le_refl _) _).alloc (by simp) _
  have ca : W0.cell? ⟨w.heap.size, 0, none⟩ = some (.pointer (some ⟨g, 0, none⟩)) := by rw [hW0]; exact cell_alloc_sl _ (cell_new_sl w _ _)
  have cx : W0.cell? ⟨w.heap.size + 1, 0, none⟩ = some (.string key) := by rw [hW0]; have := cell_new_sl (w.alloc (.cells #[.pointer (some ⟨g, 0, none⟩)] 24)) (.string key) 9; rwa [World.size_alloc] at this
  have cg := bel_cell hB0 (Nat.le_refl _) hI.c0
  have hgl := heap_lt hI.cells
  have hS := Any.sort_Search (P := Tryd.prog) (ρ := Tryd.seaL_ren) Tryd.seaL 52 #[.pointer (some ⟨w.heap.size, 0, none⟩), .pointer (some ⟨w.heap.size + 1, 0, none⟩)] A.es.length (fun i => !decide (cmpS A.es[i]!.key key < 0)) W0 enters52 (by have := wf.len; omega)
    (fun m os i hi => by
      obtain ⟨b, off, rfl, hEn⟩ := hEV.2 (by omega)
      obtain ⟨b2, e1, e2, e3, e4⟩ := hsome _ rfl
      cases e1
      refine (closure52 w.heap.size (w.heap.size + 1) g b c A.es.length A.es key i _ hi rfl (cell_grown (by simp [hsize]; omega) ca m os) (cell_grown (by simp [hsize]) cx m os) (cell_grown (by simp [hsize]; omega) cg m os)
        ((hEn.below hB0 (Nat.le_refl _)).below (below_grown_sl _ W0 m os (Nat.le_refl _)) (Nat.le_refl _))).mono ?_
      rintro e w' ⟨he, q, hq⟩
      exact ⟨he, q, #[], by rw [hq, Go.Sort.grow_empty]⟩)
    (fun a b hab hb hp => ks_mono wf.ks a b hab hb hp)
  rw [below_count] at hS
  have c0 := hI.c0
  clear ca cx cg hEV hI hsome
  generalize belowN key A.es = r at hS ⊢
  generalize A.es.length = n at hS c0 ⊢
  go_enter Tryd.func38, Tryd.ntmps38
  go_wp2_with (go_at_call 51; rw [← hW0]; refine hS.mono ?_; rintro e w' ⟨rfl, q, os, rfl⟩)
  go_ret
  exact ⟨rfl, (by rw [← hW0]; exact hB0.trans (below_grown_sl w.heap.size W0 q os (by omega)))⟩
end Go.Proofs.YtaamekkbgaeafaaDoor
namespace Go.Proofs.YtaamekkbgaeafaaDoor
open Go.RowKit
set_option linter.unusedSectionVars false
variable [Inhabited E]
set_option maxHeartbeats 2000000 in
set_option maxRecDepth 100000 in
theorem find_mem (own : Nat → Prop) (g : Nat) (A : Mm) (key : ByteArray) (w : World) (h : MemAt own w g A) :
    Calls Tryd.prog 31 #[.pointer (some ⟨g, 0, none⟩), .string key] w fun e w' => e = .returned (.tuple #[.int .i64 (belowN key A.es : Nat), .bool (isIn key A.es)]) ∧ Below w.heap.size w w' := by
  have hI := ks_isIn key h.1.ks
  have hle := belowN_le key A.es
  obtain ⟨r, HR⟩ : ∃ r, Hid (belowN key A.es = r) := ⟨_, rfl⟩
  obtain ⟨q, HQ⟩ : ∃ q, Hid (isIn key A.es = q) := ⟨_, rfl⟩
  rw [HR.out, HQ.out]
  rw [HR.out, HQ.out] at hI
  rw [HR.out] at hle
  have hN : A.es.length ≤ 64 := h.1.len
  go_enter Tryd.func31, Tryd.ntmps31
  go_wp2_with (go_at_call 38; refine (place_any own g A key _ h).mono ?_; rintro e w1 ⟨rfl, hb1⟩; simp only [HR.out])
  have h1 := h.grown hb1
  clear h HQ
  obtain ⟨wf, v, hM⟩ := h1
  obtain ⟨ao, c, rfl, hEV, hnc, hc, hnone, hsome⟩ := hM.slice
  have c0 := hM.c0
  by_cases hlt : r < A.es.length
  · obtain ⟨b, off, rfl, hEn⟩ := hEV.2 (by omega)
    obtain ⟨b2, e1, e2, e3, e4⟩ := hsome _ rfl
    cases e1
    have hk : w1.cell? ⟨b, r * 4, none⟩ = some (.string A.es[r]!.key) := by
      have := ents_cell hEn r 0 (by omega) (by omega)
      simpa [encE] using this
    rw [decide_eq_true hlt, Bool.true_and, ← eq_cmpS] at hI
    have HI : Hid (q = (A.es[r]!.key.toList == key.toList)) := hI
    generalize A.es[r]!.key = k1 at hk HI
    clear hI hM hEV hsome hEn hnone hle hnc hc e2 e4 HR wf e3
    generalize A.es.length = n at c0 hlt hN
    have d1 : decide ((r : Int) < (n : Int)) = true := by simp; omega
    have d2 : decide (r < n) = true := by simp; omega
    have hiz : (r : Int) < (n : Int) := by omega
    go_quiet (fail)
    go_wp2
    go_ret2
    exact ⟨by rw [HI.out]; rfl, bel_drewN hb1 _⟩
  · rw [decide_eq_false hlt, Bool.false_and] at hI
    have HI : Hid (q = false) := hI
    clear hI hM hEV hsome hnone hnc hc HR wf
    have hre : A.es.length = r := by omega
    rw [hre] at c0 hN
    clear hlt hle hre
    have d2 : decide (r < r) = false := by simp
    go_quiet (fail)
    go_wp2
    go_ret2
    exact ⟨by rw [HI.out]; rfl, bel_drewN hb1 _⟩
theorem last_any (own : Nat → Prop) (g : Nat) (A : Mm) (w : World) (h : MemAt own w g A) :
    Calls Tryd.prog 22 #[.pointer (some ⟨g, 0, none⟩)] w fun e w' => e = .returned (.int .i64 A.last) ∧ w' = w := by
  obtain ⟨wf, v, hM⟩ := h
  have c1 := hM.c1
  clear hM
  go_enter Tryd.func22, Tryd.ntmps22
  go_wp2
  go_ret
  exact ⟨rfl, rfl⟩
theorem len_any (own : Nat → Prop) (g : Nat) (A : Mm) (w : World) (h : MemAt own w g A) :
    Calls Tryd.prog 24 #[.pointer (some ⟨g, 0, none⟩)] w fun e w' => e = .returned (.int .i64 (A.es.length : Nat)) ∧ w' = w := by
  obtain ⟨wf, v, hM⟩ := h
  obtain ⟨ao, c, rfl, hEV, hnc, hc, hnone, hsome⟩ := hM.slice
  have c0 := hM.c0
  have hN : A.es.length ≤ 64 := wf.len
  clear hM hEV hsome hnone hnc
  generalize A.es.length = n at c0 hN ⊢
  go_enter Tryd.func24, Tryd.ntmps24
  go_wp2
  go_ret
  exact ⟨rfl, rfl⟩
end Go.Proofs.YtaamekkbgaeafaaDoor
