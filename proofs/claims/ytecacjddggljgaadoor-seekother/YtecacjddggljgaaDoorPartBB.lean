/-
  There is one way to write an entry: plain mathematics, no program. A range over a function whose body may leave by a return: a law over any program. SHA-256's words as plain functions, and how the walk's numbers are they. No program.
-/
import Derived.Test.YtecacjddggljgaaDoorPartAI
import Derived.Test.YtecacjddggljgaaDoorPartBA
import Derived.RangeFuncNested
import Derived.RangeFuncBound
import Derived.RangeFuncCalls
import Derived.RangeFuncLeaves
import Derived.RangeFuncBox
import Derived.Shelf.Abstract
import Derived.Shelf.RegionOpen
import Derived.OwnWalkIn
import Derived.TacticsInMore
import Derived.LoopNIn
import Derived.LoopIn
import Derived.Maps.AppendAt
import Derived.Laws.BitsAllLaws
import Derived.WalkKit
import Derived.WalkSpells
namespace Go.Proofs.YtecacjddggljgaaDoor
open Go.RowKit
set_option linter.unusedSectionVars false
variable [Inhabited E] [DecidableEq E]
theorem take_add (l : List UInt8) (a b : Nat) : l.take (a + b) = l.take a ++ (l.drop a).take b := by
  rw [List.take_add]
theorem textOf_once (bs s : List UInt8) (n : Nat) (h : textOf bs = (s, n, true)) : 1 ≤ n ∧ n ≤ bs.length ∧ bs.take n = textB s ∧ s.length < 18446744073709551616 := by
  unfold textOf at h
  split at h
  · cases h
  · rename_i hc
    obtain ⟨⟨v, k, ok⟩, hg⟩ : ∃ x, getB bs = x := ⟨_, rfl⟩
    rw [hg] at h hc
    simp only [Prod.mk.injEq, and_true] at h
    have hok : ok = true := by cases ok with | true => rfl | false => exact absurd (.inl rfl) hc
    subst hok
    obtain ⟨h1, h2, h3, h4, _⟩ := getB_once bs v k hg
    obtain ⟨hs, hn⟩ := h
    have hlen : v ≤ bs.length - k := by
      have : ¬ (bs.length - k < v) := fun h => hc (.inr h)
      omega
    have hsl : s.length = v := by rw [← hs, List.length_take, List.length_drop]; omega
    refine ⟨by omega, by omega, ?_, by omega⟩
    rw [← hn, take_add, h4, hs, textB, hsl]
theorem wrap64_right {v : Nat} (hv : v < 18446744073709551616) (h1 : 1 ≤ wrap64 (v : Int)) (h2 : wrap64 (v : Int) ≤ 1099511627776) : wrap64 (v : Int) = v ∧ (wrap64 (v : Int)).toNat = v := by
  unfold wrap64 at *
  omega
theorem num0 {x : Nat} (h : ¬ 1 < x) (h2 : ¬ x = 1) : x = 0 := by omega
theorem num1 {k m l : Nat} (h1 : 1 ≤ k) (h2 : k ≤ l) (h3 : m ≤ l - k) : 1 ≤ 1 + k + m ∧ 1 + k + m ≤ l + 1 := by omega
theorem num2 {k m n l : Nat} (h1 : 1 ≤ k) (h2 : k ≤ l) (h3 : m ≤ l - k) (h4 : n ≤ l - (k + m)) : 1 ≤ 1 + k + m + n ∧ 1 + k + m + n ≤ l + 1 := by omega
theorem num3 (k m n : Nat) : 1 + k + m + n = (k + m + n) + 1 := by omega
theorem parse_once {bs : List UInt8} {e : E} {n : Nat} (h : parseOf bs = some (e, n)) : rightB e = true ∧ 1 ≤ n ∧ n ≤ bs.length ∧ bs.take n = bytesB e := by
  unfold parseOf at h
  split at h
  · rename_i x m hr
    split at h
    · rename_i hrt
      cases h
      cases bs with
      | nil => simp [readOf] at hr
      | cons t r =>
        simp only [readOf] at hr
        split at hr
        · cases hr
        · rename_i ht
          obtain ⟨⟨v, k, ok⟩, hg⟩ : ∃ x, getB r = x := ⟨_, rfl⟩
          rw [hg] at hr
          simp only at hr
          split at hr
          · cases hr
          · rename_i hok
            have hok : ok = true := by simpa using hok
            subst hok
            obtain ⟨g1, g2, g3, g4, _⟩ := getB_once r v k hg
            obtain ⟨⟨s, m1, ok1⟩, hg1⟩ : ∃ x, textOf (r.drop k) = x := ⟨_, rfl⟩
            rw [hg1] at hr
            simp only at hr
            split at hr
            · cases hr
            · rename_i hok1
              have hok1 : ok1 = true := by simpa using hok1
              subst hok1
              obtain ⟨t1, t2, t3, t4⟩ := textOf_once _ _ _ hg1
              rw [List.length_drop] at t2
              split at hr
              · rename_i ht1
                cases hr
                have hR := hrt
                simp only [rightB, decide_eq_true_eq] at hR
                obtain ⟨w1, w2⟩ := wrap64_right g1 hR.2.2.2.2.1 hR.2.2.2.2.2
                have htt : t = 1 := UInt8.toNat_inj.1 ht1
                refine ⟨hrt, (num1 g2 g3 t2).1, by rw [List.length_cons]; exact (num1 g2 g3 t2).2, ?_⟩
                rw [bytesB, hrt]
                simp only [if_true, headB]
                rw [show 1 + k + m1 = (k + m1) + 1 from by rw [Nat.add_assoc, Nat.add_comm], List.take_succ_cons, take_add, g4, t3, w2, htt, strB_mk]
                rfl
              · rename_i ht1
                obtain ⟨⟨s2, m2, ok2⟩, hg2⟩ : ∃ x, textOf (r.drop (k + m1)) = x := ⟨_, rfl⟩
                rw [hg2] at hr
                simp only at hr
                split at hr
                · cases hr
                · rename_i hok2
                  have hok2 : ok2 = true := by simpa using hok2
                  subst hok2
                  obtain ⟨u1, u2, u3, u4⟩ := textOf_once _ _ _ hg2
                  rw [List.length_drop] at u2
                  cases hr
                  have hR := hrt
                  simp only [rightB, decide_eq_true_eq] at hR
                  obtain ⟨w1, w2⟩ := wrap64_right g1 hR.2.2.2.2.1 hR.2.2.2.2.2
                  have htt : t = 0 := UInt8.toNat_inj.1 (num0 ht ht1)
                  refine ⟨hrt, (num2 g2 g3 t2 u2).1, by rw [List.length_cons]; exact (num2 g2 g3 t2 u2).2, ?_⟩
                  rw [bytesB, hrt]
                  simp only [if_true, headB, Bool.false_eq_true, if_false]
                  rw [show 1 + k + m1 + m2 = (k + m1 + m2) + 1 from num3 k m1 m2, List.take_succ_cons, take_add, take_add, g4, t3, u3, w2, htt, strB_mk, strB_mk]
                  rfl
    · cases h
  · cases h
end Go.Proofs.YtecacjddggljgaaDoor
namespace Go.Proofs.YtecacjddggljgaaDoor
open Go.RowKit Go.Shelf
attribute [local go_sem] Oper.semAt_some
/-- What may be done to a block that holds no cells, from B on. -/
def AbPut {β : Type} (B : Nat) (I : β → World → Prop) : Prop := ∀ (s : β) (W : World) (l : Nat) (o o' : Obj), I s W → B ≤ l → W.heap[l]? = some o → o.isCells = false → I s (W.putObj l o')
def AbNew {β : Type} (I : β → World → Prop) : Prop := ∀ (s : β) (W W' : World), I s W → Below W.heap.size W W' → I s W'
set_option maxHeartbeats 1000000 in
theorem range_out {α : Type} {P : Program} {ps : Array Tmp} {assign body : Code} {g : Operand} {Q : Exit → Act → World → Prop} {a : Act} {W0 : World} {gf : Nat} {lb : Array Value}
    (hg : a.eval g = .func (.func gf) #[] lb) (eg : ∀ args w, (callFunc gf args).run P w = .ok (.enter gf args) w) (encs : α → Array Value) (hps : ∀ x, (encs x).size = ps.size)
    (I Ix T Tx : List α → World → Prop) (Kp : World → World → Prop) (Ok : List α → α → World → Prop) (a1 : α → Act)
    (hseq : ∀ (J Jx : List α → World → Prop) (W : World), Below W0.heap.size W0 W → AbNew J → AbNew Jx →
      (∀ pre x W1, J pre W1 → Ok pre x W1 → YieldAt Fence.wide 1 P (W0.heap.size + 1) (encs x) W1 fun e W' => Kp W1 W' ∧ ((e = .returned (.bool true) ∧ J (pre ++ [x]) W') ∨ (e = .returned (.bool false) ∧ Jx (pre ++ [x]) W'))) → J [] W →
      CallsIn Fence.wide 2 P gf (#[.func (.yield (W0.heap.size + 1)) #[] #[]] ++ lb) W fun e W' => (∃ v, e = .returned v) ∧ ((∃ xs, J xs W' ∧ T xs W') ∨ ∃ xs, Jx xs W' ∧ Tx xs W'))
    (hIn : AbNew I) (hIxn : AbNew Ix) (hIp : AbPut W0.heap.size I) (hIxp : AbPut W0.heap.size Ix) (hTp : AbPut W0.heap.size T) (hTxp : AbPut W0.heap.size Tx) (hOk : ∀ pre, AbPut W0.heap.size (Ok pre)) (hKt : ∀ {A B C : World}, Kp A B → Kp B C → Kp A C)
    (hKp : ∀ (W : World) (l : Nat) (o o' : Obj), W0.heap.size ≤ l → W.heap[l]? = some o → o.isCells = false → Kp W (W.putObj l o')) (h0 : I [] W0)
    (hassign : ∀ (x : α) (W : World) (K : Act → World → Prop), K (a1 x) W → assign.wpIn (Fence.wide.inRound (W0.heap.size + 1)) 1 P (Exit.then K (fun _ _ _ => False)) { tmps := (ps.zip (encs x)).foldl (fun t (p, v) => t.setIfInBounds p v) a.tmps, defers := [] } W)
    (hbody : ∀ (pre : List α) (x : α) (W : World), I pre W → Ok pre x W → body.wpIn (Fence.wide.inRound (W0.heap.size + 1)) 1 P (fun e _ W' => Kp W W' ∧ KeepsFrom W0.heap.size W W' ∧ ((e = .normal ∧ I (pre ++ [x]) W') ∨ (e = .ret ∧ Ix (pre ++ [x]) W'))) (a1 x) W)
    (hdone : ∀ (D : Nat) (xs : List α) (W : World), W0.heap.size ≤ D → T xs W → I xs W → W.heap[D]? = some (.deferred (some [])) → Q .normal { a with defers := { target := .collected D, args := #[] } :: a.defers } W)
    (hstop : ∀ (D : Nat) (xs : List α) (W : World), W0.heap.size ≤ D → Tx xs W → Ix xs W → W.heap[D]? = some (.deferred (some [])) → Code.ret.wpIn Fence.wide 3 P Q { a with defers := { target := .collected D, args := #[] } :: a.defers } W) :
    (Code.rangeFunc g ps assign body).wpIn Fence.wide 3 P Q a W0 := by
  refine wpIn_rangeFunc (fun fn _ => ?_)
  obtain ⟨L, hL⟩ : ∃ L : LoopState → Option Code → Loop, L = fun st pe => { state := st, pending := pe, fn := fn, tmps := a.tmps, params := ps, assign := assign, body := body, defers := W0.heap.size } := ⟨_, rfl⟩
  have hnew : Below W0.heap.size W0 ((W0.alloc (.deferred (some []))).alloc (.loop (L .ready none))) := ((Below.refl _ W0).alloc (Nat.le_refl _) _).alloc (by simp) _
  obtain ⟨W1, hW1⟩ : ∃ W1, (W0.alloc (.deferred (some []))).alloc (.loop (L .ready none)) = W1 := ⟨_, rfl⟩
  have hrec : W1.heap[W0.heap.size + 1]? = some (.loop (L .ready none)) := by
    have := World.alloc_heap_new (W0.alloc (.deferred (some []))) (.loop (L .ready none))
    rw [World.size_alloc, hW1] at this; exact this
  have hdef : W1.heap[W0.heap.size]? = some (.deferred (some [])) := by
    rw [← hW1]; exact (Below.heap_alloc _ _ _ (by simp)).trans (World.alloc_heap_new W0 _)
  rw [hW1] at hnew
  obtain ⟨J, hJ⟩ : ∃ J : List α → World → Prop, J = fun pre W => I pre W ∧ W.heap[W0.heap.size + 1]? = some (.loop (L .ready none)) ∧ W.heap[W0.heap.size]? = some (.deferred (some [])) := ⟨_, rfl⟩
  obtain ⟨Jx, hJx⟩ : ∃ J : List α → World → Prop, J = fun pre W => Ix pre W ∧ W.heap[W0.heap.size + 1]? = some (.loop (L .done (some .ret))) ∧ W.heap[W0.heap.size]? = some (.deferred (some [])) := ⟨_, rfl⟩
  have call := hseq J Jx W1 hnew (by
      rw [hJ]
      rintro pre W W' ⟨h1, h2, h3⟩ hb
      exact ⟨hIn _ _ _ h1 hb, (hb.block _ (Array.getElem?_eq_some_iff.1 h2).1).trans h2, (hb.block _ (Array.getElem?_eq_some_iff.1 h3).1).trans h3⟩) (by
      rw [hJx]
      rintro pre W W' ⟨h1, h2, h3⟩ hb
      exact ⟨hIxn _ _ _ h1 hb, (hb.block _ (Array.getElem?_eq_some_iff.1 h2).1).trans h2, (hb.block _ (Array.getElem?_eq_some_iff.1 h3).1).trans h3⟩) (by
      rw [hJ, hJx]
      rintro pre x W ⟨h1, h2, h3⟩ hok
      have hy := run_yield (P := P) (args := encs x) h2 (by rw [hL]; exact hps x)
      rw [hL] at hy
      have lt := (Array.getElem?_eq_some_iff.1 h2).1
      have busy : (W.putObj (W0.heap.size + 1) (.loop (L .busy none))).heap[W0.heap.size + 1]? = some (.loop (L .busy none)) := World.putObj_heap_same lt
      have defs : (W.putObj (W0.heap.size + 1) (.loop (L .busy none))).heap[W0.heap.size]? = some (.deferred (some [])) := (World.putObj_heap_other (by omega)).trans h3
      have begins : (Instr.beginRound (W0.heap.size + 1)).run P W = .ok () (W.putObj (W0.heap.size + 1) (.loop (L .busy none))) := by
        have := run_beginRound (P := P) h2 (by rw [hL]); rw [hL] at this ⊢; exact this
      refine ⟨fn, _, assign, body, hy, roundIn_of_wpIn trivial (hassign x W _ ⟨_, begins, wpIn_mono (hbody pre x _ (hIp _ _ _ _ _ h1 (by omega) h2 rfl) (hOk _ _ _ _ _ _ hok (by omega) h2 rfl)) ?_⟩)⟩
      rintro e a3 W3 ⟨k3, f3, h4⟩
      have b3 := f3.same _ _ (by omega) busy rfl
      have d3 := f3.same _ _ (by omega) defs rfl
      rcases h4 with ⟨rfl, i3⟩ | ⟨rfl, i3⟩
      · have ends : (Instr.endRound (W0.heap.size + 1) none).run P W3 = .ok (.bool true) (W3.putObj (W0.heap.size + 1) (.loop (L .ready none))) := by
          have := run_endRound (P := P) none b3; rw [hL] at this ⊢; exact this
        exact ⟨_, _, ends, hKt (hKt (hKp _ _ _ _ (by omega) h2 rfl) k3) (hKp _ _ _ _ (by omega) b3 rfl), .inl ⟨rfl, hIp _ _ _ _ _ i3 (by omega) b3 rfl, World.putObj_heap_same (Array.getElem?_eq_some_iff.1 b3).1, (World.putObj_heap_other (by omega)).trans d3⟩⟩
      · have ends : (Instr.endRound (W0.heap.size + 1) (some .ret)).run P W3 = .ok (.bool false) (W3.putObj (W0.heap.size + 1) (.loop (L .done (some .ret)))) := by
          have := run_endRound (P := P) (some .ret) b3; rw [hL] at this ⊢; exact this
        exact ⟨_, _, ends, hKt (hKt (hKp _ _ _ _ (by omega) h2 rfl) k3) (hKp _ _ _ _ (by omega) b3 rfl), .inr ⟨rfl, hIxp _ _ _ _ _ i3 (by omega) b3 rfl, World.putObj_heap_same (Array.getElem?_eq_some_iff.1 b3).1, (World.putObj_heap_other (by omega)).trans d3⟩⟩) (by
      rw [hJ]
      exact ⟨hIn _ _ _ h0 hnew, hrec, hdef⟩)
  refine ⟨W0.heap.size + 1, [{ target := .collected W0.heap.size, args := #[] }], W1, { target := .fn (.func gf) lb, args := #[.func (.yield (W0.heap.size + 1)) #[] #[]] }, W1, gf, #[.func (.yield (W0.heap.size + 1)) #[] #[]] ++ lb, W1, ?_, ?_, ?_, ?_, ?_, ?_⟩
  · rw [← hW1, hL]; exact run_enterLoop_outer _ _ _ _ _
  · simp only [resolve, hg]; simp [go_sem]
  · intro f' _; exact True.intro
  · simp [invoke, go_sem, eg]
  · intro _; decide
  · refine CallsIn.mono call ?_
    rw [hJ, hJx]
    rintro e W2 ⟨⟨v, rfl⟩, ⟨xs, ⟨i2, r2, d2⟩, t2⟩ | ⟨xs, ⟨i2, r2, d2⟩, t2⟩⟩
    · have out := run_endLoop (P := P) r2 (by rw [hL]; simp)
      rw [hL] at out r2
      exact ⟨none, _, out, hdone _ xs _ (Nat.le_refl _) (hTp _ _ _ _ _ t2 (by omega) r2 rfl) (hIp _ _ _ _ _ i2 (by omega) r2 rfl) ((World.putObj_heap_other (by omega)).trans d2)⟩
    · have out := run_endLoop (P := P) r2 (by rw [hL]; simp)
      rw [hL] at out r2
      exact ⟨some .ret, _, out, hstop _ xs _ (Nat.le_refl _) (hTxp _ _ _ _ _ t2 (by omega) r2 rfl) (hIxp _ _ _ _ _ i2 (by omega) r2 rfl) ((World.putObj_heap_other (by omega)).trans d2)⟩
theorem owns_put {W : World} {base : Nat} {e : TypeId} {size : Nat} {v : Value} {k : Nat} {xs : List Value} (h : W.ownsRow base e size v k xs) {l : Nat} {o : Obj} (o' : Obj) (hl : W.heap[l]? = some o) (ho : o.isCells = false) : (W.putObj l o').ownsRow base e size v k xs := ownsRow_putObj h o' hl ho
theorem box_put {W : World} {B : Nat} {t : TypeId} {v : Value} (h : Boxed W B t v) {l : Nat} {o : Obj} (o' : Obj) (hl : W.heap[l]? = some o) (ho : o.isCells = false) : Boxed (W.putObj l o') B t v := by
  have hne : B ≠ l := fun e => by
    subst e
    have h2 : W.heap[B]? = some (.cells #[v] t (0, 0)) := h
    rw [hl] at h2; cases h2; cases ho
  exact (World.putObj_heap_other hne).trans h
theorem below_put {n0 : Nat} {w W : World} (h : Below n0 w W) (l : Nat) (o' : Obj) (hl : n0 ≤ l) : Below n0 w (W.putObj l o') :=
  h.trans ⟨rfl, rfl, rfl, by simp, fun k hk => World.putObj_heap_other (by omega)⟩
theorem cell_put {W : World} {a : Addr} {v : Value} (h : W.cell? a = some v) {l : Nat} {o : Obj} (o' : Obj) (hl : W.heap[l]? = some o) (ho : o.isCells = false) : (W.putObj l o').cell? a = some v := by
  obtain ⟨ob, hob, hc⟩ := cells_of_cell h
  have hne : a.block ≠ l := fun e => by rw [e, hl] at hob; cases hob; rw [ho] at hc; cases hc
  exact (World.cell?_of_block (World.putObj_heap_other hne)).trans h
theorem bytes_put {W : World} {ao : Option Addr} {n : Nat} {bs : List UInt8} (h : Bytes W ao n bs) {l : Nat} {o : Obj} (o' : Obj) (hl : W.heap[l]? = some o) (ho : o.isCells = false) : Bytes (W.putObj l o') ao n bs := by
  refine ⟨h.1, fun i c hi => ?_⟩
  obtain ⟨x, hx, hc⟩ := h.2 i c hi
  exact ⟨x, hx, cell_put hc o' hl ho⟩
theorem heap_set_far (W : World) (b k : Nat) (v : Value) (h : k ≠ b) : (W.setCell ⟨b, 0, none⟩ v).heap[k]? = W.heap[k]? := Below.heap_setCell W ⟨b, 0, none⟩ v k h
/-- A slice that is some bytes. -/
structure SV where
  ao : Option Addr
  n : Nat
  c : Nat
  bs : List UInt8
def SV.fine (a : SV) : Prop := (a.ao = none → a.c = 0) ∧ a.n ≤ a.c ∧ a.c ≤ 9223372036854775807
end Go.Proofs.YtecacjddggljgaaDoor
namespace Go.Proofs.YtecacjddggljgaaDoor.Sm

/-- Eight words. -/
structure S8 where
  a : UInt32
  b : UInt32
  c : UInt32
  d : UInt32
  e : UInt32
  f : UInt32
  g : UInt32
  h : UInt32
def rot (x n : UInt32) : UInt32 := x <<< (32 - n) ||| x >>> n
def be4 (l : List UInt8) (t : Nat) : UInt32 := (l.getD (4*t) 0).toUInt32 <<< 24 ||| (l.getD (4*t+1) 0).toUInt32 <<< 16 ||| (l.getD (4*t+2) 0).toUInt32 <<< 8 ||| (l.getD (4*t+3) 0).toUInt32
def nextW (bl : List UInt8) (l : List UInt32) (t : Nat) : UInt32 :=
  if t < 16 then be4 bl t else
    (rot (l.getD (t-2) 0) 17 ^^^ rot (l.getD (t-2) 0) 19 ^^^ l.getD (t-2) 0 >>> 10) + l.getD (t-7) 0 + (rot (l.getD (t-15) 0) 7 ^^^ rot (l.getD (t-15) 0) 18 ^^^ l.getD (t-15) 0 >>> 3) + l.getD (t-16) 0
def sched (bl : List UInt8) : Nat → List UInt32
  | 0 => []
  | t + 1 => sched bl t ++ [nextW bl (sched bl t) t]
def ks : List UInt32 := [
    0x428a2f98, 0x71374491, 0xb5c0fbcf, 0xe9b5dba5, 0x3956c25b, 0x59f111f1, 0x923f82a4, 0xab1c5ed5,
    0xd807aa98, 0x12835b01, 0x243185be, 0x550c7dc3, 0x72be5d74, 0x80deb1fe, 0x9bdc06a7, 0xc19bf174,
    0xe49b69c1, 0xefbe4786, 0x0fc19dc6, 0x240ca1cc, 0x2de92c6f, 0x4a7484aa, 0x5cb0a9dc, 0x76f988da,
    0x983e5152, 0xa831c66d, 0xb00327c8, 0xbf597fc7, 0xc6e00bf3, 0xd5a79147, 0x06ca6351, 0x14292967,
    0x27b70a85, 0x2e1b2138, 0x4d2c6dfc, 0x53380d13, 0x650a7354, 0x766a0abb, 0x81c2c92e, 0x92722c85,
    0xa2bfe8a1, 0xa81a664b, 0xc24b8b70, 0xc76c51a3, 0xd192e819, 0xd6990624, 0xf40e3585, 0x106aa070,
    0x19a4c116, 0x1e376c08, 0x2748774c, 0x34b0bcb5, 0x391c0cb3, 0x4ed8aa4a, 0x5b9cca4f, 0x682e6ff3,
    0x748f82ee, 0x78a5636f, 0x84c87814, 0x8cc70208, 0x90befffa, 0xa4506ceb, 0xbef9a3f7, 0xc67178f2]
def rnd (s : S8) (k w : UInt32) : S8 :=
  let t1 := s.h + (rot s.e 6 ^^^ rot s.e 11 ^^^ rot s.e 25) + (s.e &&& s.f ^^^ ~~~ s.e &&& s.g) + k + w
  let t2 := (rot s.a 2 ^^^ rot s.a 13 ^^^ rot s.a 22) + (s.a &&& s.b ^^^ s.a &&& s.c ^^^ s.b &&& s.c)
  ⟨t1 + t2, s.a, s.b, s.c, s.d + t1, s.e, s.f, s.g⟩
def rounds (ws : List UInt32) (s : S8) : Nat → S8
  | 0 => s
  | t + 1 => rnd (rounds ws s t) (ks.getD t 0) (ws.getD t 0)
def S8.add (s t : S8) : S8 := ⟨s.a + t.a, s.b + t.b, s.c + t.c, s.d + t.d, s.e + t.e, s.f + t.f, s.g + t.g, s.h + t.h⟩
def comp (s : S8) (bl : List UInt8) : S8 := s.add (rounds (sched bl 64) s 64)
def H0 : S8 := ⟨0x6a09e667, 0xbb67ae85, 0x3c6ef372, 0xa54ff53a, 0x510e527f, 0x9b05688c, 0x1f83d9ab, 0x5be0cd19⟩
def chain (l : List UInt8) : Nat → S8
  | 0 => H0
  | n + 1 => comp (chain l n) ((l.drop (64 * n)).take 64)

/-! The walk's numbers. -/
theorem w_lt (x : UInt32) : x.toNat < 4294967296 := x.toNat_lt
theorem w_xor (x y : UInt32) : bits .xor .u32 (x.toNat : Int) (y.toNat : Int) = ((x ^^^ y).toNat : Int) := by
  rw [u32_xor_nat _ _ (w_lt x) (w_lt y), UInt32.toNat_xor]
theorem w_or (x y : UInt32) : bits .or .u32 (x.toNat : Int) (y.toNat : Int) = ((x ||| y).toNat : Int) := by
  rw [u32_or_nat _ _ (w_lt x) (w_lt y), UInt32.toNat_or]
theorem w_and (x y : UInt32) : bits .and .u32 (x.toNat : Int) (y.toNat : Int) = ((x &&& y).toNat : Int) := by
  rw [u32_and_nat _ _ (w_lt x) (w_lt y), UInt32.toNat_and]
theorem w_add (x y : UInt32) : ((x.toNat : Int) + (y.toNat : Int)) % 4294967296 = ((x + y).toNat : Int) := by
  rw [UInt32.toNat_add]; omega
theorem w_add5 (a b c d e : UInt32) : ((a.toNat : Int) + (b.toNat : Int) + (c.toNat : Int) + (d.toNat : Int) + (e.toNat : Int)) % 4294967296 = ((a + b + c + d + e).toNat : Int) := by
  rw [← w_add, ← w_add, ← w_add, ← w_add]; omega
theorem w_add4 (a b c d : UInt32) : ((a.toNat : Int) + (b.toNat : Int) + (c.toNat : Int) + (d.toNat : Int)) % 4294967296 = ((a + b + c + d).toNat : Int) := by
  rw [← w_add, ← w_add, ← w_add]; omega
theorem w_not (x : UInt32) : bits .xor .u32 IntKind.u32.max (x.toNat : Int) = ((~~~ x).toNat : Int) := by
  have hm : IntKind.u32.max = (((-1 : UInt32).toNat : Nat) : Int) := by decide
  rw [hm, w_xor, UInt32.neg_one_xor]
theorem w_shl (x : UInt32) (n : UInt32) (p : Nat) (hn : n.toNat < 32) (hp : 2 ^ n.toNat = p) : ((x.toNat : Int) * (p : Int)) % 4294967296 = ((x <<< n).toNat : Int) := by
  rw [UInt32.toNat_shiftLeft, Nat.mod_eq_of_lt hn, Nat.shiftLeft_eq, hp]; omega
theorem w_shr (x : UInt32) (n : UInt32) (p : Nat) (hn : n.toNat < 32) (hp : 2 ^ n.toNat = p) : (x.toNat : Int) / (p : Int) = ((x >>> n).toNat : Int) := by
  rw [UInt32.toNat_shiftRight, Nat.mod_eq_of_lt hn, Nat.shiftRight_eq_div_pow, hp]; omega
theorem w_rot (x n : UInt32) (p q : Nat) (hn : n.toNat < 32) (hm : (32 - n).toNat < 32) (hp : 2 ^ (32 - n).toNat = p) (hq : 2 ^ n.toNat = q) :
    bits .or .u32 ((x.toNat : Int) * (p : Int) % 4294967296) ((x.toNat : Int) / (q : Int)) = ((rot x n).toNat : Int) := by
  rw [w_shl x (32 - n) p hm hp, w_shr x n q hn hq, w_or]; rfl
theorem u8w (c : UInt8) : IntKind.u32.wrap (c.toNat : Int) = (c.toUInt32.toNat : Int) := by
  have := c.toNat_lt
  rw [IntKind.wrap_u32', UInt8.toNat_toUInt32]; omega
theorem wshl24 (x : UInt32) : IntKind.u32.wrap ((x.toNat : Int) * (16777216 : Int)) = ((x <<< 24).toNat : Int) := by
  rw [IntKind.wrap_u32']; exact w_shl x 24 16777216 (by decide) (by decide)
theorem wshl16 (x : UInt32) : IntKind.u32.wrap ((x.toNat : Int) * (65536 : Int)) = ((x <<< 16).toNat : Int) := by
  rw [IntKind.wrap_u32']; exact w_shl x 16 65536 (by decide) (by decide)
theorem wshl8 (x : UInt32) : IntKind.u32.wrap ((x.toNat : Int) * (256 : Int)) = ((x <<< 8).toNat : Int) := by
  rw [IntKind.wrap_u32']; exact w_shl x 8 256 (by decide) (by decide)
theorem w_wadd (x y : UInt32) : IntKind.u32.wrap ((x.toNat : Int) + (y.toNat : Int)) = ((x + y).toNat : Int) := by
  rw [IntKind.wrap_u32', w_add]
theorem wshr3 (x : UInt32) : (x.toNat : Int) / (8 : Int) = ((x >>> 3).toNat : Int) := w_shr x 3 8 (by decide) (by decide)
theorem wshr10 (x : UInt32) : (x.toNat : Int) / (1024 : Int) = ((x >>> 10).toNat : Int) := w_shr x 10 1024 (by decide) (by decide)
end Go.Proofs.YtecacjddggljgaaDoor.Sm
