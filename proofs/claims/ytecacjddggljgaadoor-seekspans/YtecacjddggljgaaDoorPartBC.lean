/-
  A range over a function whose body may leave by a return: a law over any program.
-/
import Derived.Test.YtecacjddggljgaaDoorPartBB
import Derived.RangeFuncNested
import Derived.RangeFuncBound
import Derived.RangeFuncCalls
import Derived.RangeFuncLeaves
import Derived.RangeFuncBox
import Derived.Shelf.Abstract
import Derived.Shelf.RegionOpen
import Derived.OwnWalkIn
import Derived.TacticsInMore
import Derived.LoopNIn
import Derived.LoopIn
import Derived.Maps.AppendAt
namespace Go.Proofs.YtecacjddggljgaaDoor
open Go.RowKit Go.Shelf
attribute [local go_sem] Oper.semAt_some
/-- What may be done to a block that holds no cells, from B on. -/
def AbPut {β : Type} (B : Nat) (I : β → World → Prop) : Prop := ∀ (s : β) (W : World) (l : Nat) (o o' : Obj), I s W → B ≤ l → W.heap[l]? = some o → o.isCells = false → I s (W.putObj l o')
def AbNew {β : Type} (I : β → World → Prop) : Prop := ∀ (s : β) (W W' : World), I s W → Below W.heap.size W W' → I s W'
set_option maxHeartbeats 1000000 in
theorem range_out {α : Type} {P : Program} {ps : Array Tmp} {assign body : Code} {g : Operand} {Q : Exit → Act → World → Prop} {a : Act} {W0 : World} {gf : Nat} {lb : Array Value}
    (hg : a.eval g = .func (.func gf) #[] lb) (eg : ∀ args w, (callFunc gf args).run P w = .ok (.enter gf args) w) (encs : α → Array Value) (hps : ∀ x, (encs x).size = ps.size)
    (I Ix T Tx : List α → World → Prop) (Kp : World → World → Prop) (Ok : List α → α → World → Prop) (a1 : α → Act)
    (hseq : ∀ (J Jx : List α → World → Prop) (W : World), Below W0.heap.size W0 W → AbNew J → AbNew Jx →
      (∀ pre x W1, J pre W1 → Ok pre x W1 → YieldAt Fence.wide 1 P (W0.heap.size + 1) (encs x) W1 fun e W' => Kp W1 W' ∧ ((e = .returned (.bool true) ∧ J (pre ++ [x]) W') ∨ (e = .returned (.bool false) ∧ Jx (pre ++ [x]) W'))) → J [] W →
      CallsIn Fence.wide 2 P gf (#[.func (.yield (W0.heap.size + 1)) #[] #[]] ++ lb) W fun e W' => (∃ v, e = .returned v) ∧ ((∃ xs, J xs W' ∧ T xs W') ∨ ∃ xs, Jx xs W' ∧ Tx xs W'))
    (hIn : AbNew I) (hIxn : AbNew Ix) (hIp : AbPut W0.heap.size I) (hIxp : AbPut W0.heap.size Ix) (hTp : AbPut W0.heap.size T) (hTxp : AbPut W0.heap.size Tx) (hOk : ∀ pre, AbPut W0.heap.size (Ok pre)) (hKt : ∀ {A B C : World}, Kp A B → Kp B C → Kp A C)
    (hKp : ∀ (W : World) (l : Nat) (o o' : Obj), W0.heap.size ≤ l → W.heap[l]? = some o → o.isCells = false → Kp W (W.putObj l o')) (h0 : I [] W0)
    (hassign : ∀ (x : α) (W : World) (K : Act → World → Prop), K (a1 x) W → assign.wpIn (Fence.wide.inRound (W0.heap.size + 1)) 1 P (Exit.then K (fun _ _ _ => False)) { tmps := (ps.zip (encs x)).foldl (fun t (p, v) => t.setIfInBounds p v) a.tmps, defers := [] } W)
    (hbody : ∀ (pre : List α) (x : α) (W : World), I pre W → Ok pre x W → body.wpIn (Fence.wide.inRound (W0.heap.size + 1)) 1 P (fun e _ W' => Kp W W' ∧ KeepsFrom W0.heap.size W W' ∧ ((e = .normal ∧ I (pre ++ [x]) W') ∨ (e = .ret ∧ Ix (pre ++ [x]) W'))) (a1 x) W)
    (hdone : ∀ (D : Nat) (xs : List α) (W : World), W0.heap.size ≤ D → T xs W → I xs W → W.heap[D]? = some (.deferred (some [])) → Q .normal { a with defers := { target := .collected D, args := #[] } :: a.defers } W)
    (hstop : ∀ (D : Nat) (xs : List α) (W : World), W0.heap.size ≤ D → Tx xs W → Ix xs W → W.heap[D]? = some (.deferred (some [])) → Code.ret.wpIn Fence.wide 3 P Q { a with defers := { target := .collected D, args := #[] } :: a.defers } W) :
    (Code.rangeFunc g ps assign body).wpIn Fence.wide 3 P Q a W0 := by
  refine wpIn_rangeFunc (fun fn _ => ?_)
  obtain ⟨L, hL⟩ : ∃ L : LoopState → Option Code → Loop, L = fun st pe => { state := st, pending := pe, fn := fn, tmps := a.tmps, params := ps, assign := assign, body := body, defers := W0.heap.size } := ⟨_, rfl⟩
  have hnew : Below W0.heap.size W0 ((W0.alloc (.deferred (some []))).alloc (.loop (L .ready none))) := ((Below.refl _ W0).alloc (Nat.le_refl _) _).alloc (by simp) _
  obtain ⟨W1, hW1⟩ : ∃ W1, (W0.alloc (.deferred (some []))).alloc (.loop (L .ready none)) = W1 := ⟨_, rfl⟩
  have hrec : W1.heap[W0.heap.size + 1]? = some (.loop (L .ready none)) := by
    have := World.alloc_heap_new (W0.alloc (.deferred (some []))) (.loop (L .ready none))
    rw [World.size_alloc, hW1] at this; exact this
  have hdef : W1.heap[W0.heap.size]? = some (.deferred (some [])) := by
    rw [← hW1]; exact (Below.heap_alloc _ _ _ (by simp)).trans (World.alloc_heap_new W0 _)
  rw [hW1] at hnew
  obtain ⟨J, hJ⟩ : ∃ J : List α → World → Prop, J = fun pre W => I pre W ∧ W.heap[W0.heap.size + 1]? = some (.loop (L .ready none)) ∧ W.heap[W0.heap.size]? = some (.deferred (some [])) := ⟨_, rfl⟩
  obtain ⟨Jx, hJx⟩ : ∃ J : List α → World → Prop, J = fun pre W => Ix pre W ∧ W.heap[W0.heap.size + 1]? = some (.loop (L .done (some .ret))) ∧ W.heap[W0.heap.size]? = some (.deferred (some [])) := ⟨_, rfl⟩
  have call := hseq J Jx W1 hnew (by
      rw [hJ]
      rintro pre W W' ⟨h1, h2, h3⟩ hb
      exact ⟨hIn _ _ _ h1 hb, (hb.block _ (Array.getElem?_eq_some_iff.1 h2).1).trans h2, (hb.block _ (Array.getElem?_eq_some_iff.1 h3).1).trans h3⟩) (by
      rw [hJx]
      rintro pre W W' ⟨h1, h2, h3⟩ hb
      exact ⟨hIxn _ _ _ h1 hb, (hb.block _ (Array.getElem?_eq_some_iff.1 h2).1).trans h2, (hb.block _ (Array.getElem?_eq_some_iff.1 h3).1).trans h3⟩) (by
      rw [hJ, hJx]
      rintro pre x W ⟨h1, h2, h3⟩ hok
      have hy := run_yield (P := P) (args := encs x) h2 (by rw [hL]; exact hps x)
      rw [hL] at hy
      have lt := (Array.getElem?_eq_some_iff.1 h2).1
      have busy : (W.putObj (W0.heap.size + 1) (.loop (L .busy none))).heap[W0.heap.size + 1]? = some (.loop (L .busy none)) := World.putObj_heap_same lt
      have defs : (W.putObj (W0.heap.size + 1) (.loop (L .busy none))).heap[W0.heap.size]? = some (.deferred (some [])) := (World.putObj_heap_other (by omega)).trans h3
      have begins : (Instr.beginRound (W0.heap.size + 1)).run P W = .ok () (W.putObj (W0.heap.size + 1) (.loop (L .busy none))) := by
        have := run_beginRound (P := P) h2 (by rw [hL]); rw [hL] at this ⊢; exact this
      refine ⟨fn, _, assign, body, hy, roundIn_of_wpIn trivial (hassign x W _ ⟨_, begins, wpIn_mono (hbody pre x _ (hIp _ _ _ _ _ h1 (by omega) h2 rfl) (hOk _ _ _ _ _ _ hok (by omega) h2 rfl)) ?_⟩)⟩
      rintro e a3 W3 ⟨k3, f3, h4⟩
      have b3 := f3.same _ _ (by omega) busy rfl
      have d3 := f3.same _ _ (by omega) defs rfl
      rcases h4 with ⟨rfl, i3⟩ | ⟨rfl, i3⟩
      · have ends : (Instr.endRound (W0.heap.size + 1) none).run P W3 = .ok (.bool true) (W3.putObj (W0.heap.size + 1) (.loop (L .ready none))) := by
          have := run_endRound (P := P) none b3; rw [hL] at this ⊢; exact this
        exact ⟨_, _, ends, hKt (hKt (hKp _ _ _ _ (by omega) h2 rfl) k3) (hKp _ _ _ _ (by omega) b3 rfl), .inl ⟨rfl, hIp _ _ _ _ _ i3 (by omega) b3 rfl, World.putObj_heap_same (Array.getElem?_eq_some_iff.1 b3).1, (World.putObj_heap_other (by omega)).trans d3⟩⟩
      · have ends : (Instr.endRound (W0.heap.size + 1) (some .ret)).run P W3 = .ok (.bool false) (W3.putObj (W0.heap.size + 1) (.loop (L .done (some .ret)))) := by
          have := run_endRound (P := P) (some .ret) b3; rw [hL] at this ⊢; exact this
        exact ⟨_, _, ends, hKt (hKt (hKp _ _ _ _ (by omega) h2 rfl) k3) (hKp _ _ _ _ (by omega) b3 rfl), .inr ⟨rfl, hIxp _ _ _ _ _ i3 (by omega) b3 rfl, World.putObj_heap_same (Array.getElem?_eq_some_iff.1 b3).1, (World.putObj_heap_other (by omega)).trans d3⟩⟩) (by
      rw [hJ]
      exact ⟨hIn _ _ _ h0 hnew, hrec, hdef⟩)
  refine ⟨W0.heap.size + 1, [{ target := .collected W0.heap.size, args := #[] }], W1, { target := .fn (.func gf) lb, args := #[.func (.yield (W0.heap.size + 1)) #[] #[]] }, W1, gf, #[.func (.yield (W0.heap.size + 1)) #[] #[]] ++ lb, W1, ?_, ?_, ?_, ?_, ?_, ?_⟩
  · rw [← hW1, hL]; exact run_enterLoop_outer _ _ _ _ _
  · simp only [resolve, hg]; simp [go_sem]
  · intro f' _; exact True.intro
  · simp [invoke, go_sem, eg]
  · intro _; decide
  · refine CallsIn.mono call ?_
    rw [hJ, hJx]
    rintro e W2 ⟨⟨v, rfl⟩, ⟨xs, ⟨i2, r2, d2⟩, t2⟩ | ⟨xs, ⟨i2, r2, d2⟩, t2⟩⟩
    · have out := run_endLoop (P := P) r2 (by rw [hL]; simp)
      rw [hL] at out r2
      exact ⟨none, _, out, hdone _ xs _ (Nat.le_refl _) (hTp _ _ _ _ _ t2 (by omega) r2 rfl) (hIp _ _ _ _ _ i2 (by omega) r2 rfl) ((World.putObj_heap_other (by omega)).trans d2)⟩
    · have out := run_endLoop (P := P) r2 (by rw [hL]; simp)
      rw [hL] at out r2
      exact ⟨some .ret, _, out, hstop _ xs _ (Nat.le_refl _) (hTxp _ _ _ _ _ t2 (by omega) r2 rfl) (hIxp _ _ _ _ _ i2 (by omega) r2 rfl) ((World.putObj_heap_other (by omega)).trans d2)⟩
theorem owns_put {W : World} {base : Nat} {e : TypeId} {size : Nat} {v : Value} {k : Nat} {xs : List Value} (h : W.ownsRow base e size v k xs) {l : Nat} {o : Obj} (o' : Obj) (hl : W.heap[l]? = some o) (ho : o.isCells = false) : (W.putObj l o').ownsRow base e size v k xs := ownsRow_putObj h o' hl ho
theorem box_put {W : World} {B : Nat} {t : TypeId} {v : Value} (h : Boxed W B t v) {l : Nat} {o : Obj} (o' : Obj) (hl : W.heap[l]? = some o) (ho : o.isCells = false) : Boxed (W.putObj l o') B t v := by
  have hne : B ≠ l := fun e => by
    subst e
    have h2 : W.heap[B]? = some (.cells #[v] t (0, 0)) := h
    rw [hl] at h2; cases h2; cases ho
  exact (World.putObj_heap_other hne).trans h
theorem below_put {n0 : Nat} {w W : World} (h : Below n0 w W) (l : Nat) (o' : Obj) (hl : n0 ≤ l) : Below n0 w (W.putObj l o') :=
  h.trans ⟨rfl, rfl, rfl, by simp, fun k hk => World.putObj_heap_other (by omega)⟩
theorem cell_put {W : World} {a : Addr} {v : Value} (h : W.cell? a = some v) {l : Nat} {o : Obj} (o' : Obj) (hl : W.heap[l]? = some o) (ho : o.isCells = false) : (W.putObj l o').cell? a = some v := by
  obtain ⟨ob, hob, hc⟩ := cells_of_cell h
  have hne : a.block ≠ l := fun e => by rw [e, hl] at hob; cases hob; rw [ho] at hc; cases hc
  exact (World.cell?_of_block (World.putObj_heap_other hne)).trans h
theorem bytes_put {W : World} {ao : Option Addr} {n : Nat} {bs : List UInt8} (h : Bytes W ao n bs) {l : Nat} {o : Obj} (o' : Obj) (hl : W.heap[l]? = some o) (ho : o.isCells = false) : Bytes (W.putObj l o') ao n bs := by
  refine ⟨h.1, fun i c hi => ?_⟩
  obtain ⟨x, hx, hc⟩ := h.2 i c hi
  exact ⟨x, hx, cell_put hc o' hl ho⟩
theorem heap_set_far (W : World) (b k : Nat) (v : Value) (h : k ≠ b) : (W.setCell ⟨b, 0, none⟩ v).heap[k]? = W.heap[k]? := Below.heap_setCell W ⟨b, 0, none⟩ v k h
/-- A slice that is some bytes. -/
structure SV where
  ao : Option Addr
  n : Nat
  c : Nat
  bs : List UInt8
def SV.fine (a : SV) : Prop := (a.ao = none → a.c = 0) ∧ a.n ≤ a.c ∧ a.c ≤ 9223372036854775807
end Go.Proofs.YtecacjddggljgaaDoor
